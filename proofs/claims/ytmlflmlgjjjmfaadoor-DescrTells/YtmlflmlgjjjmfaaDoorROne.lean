/-
  What the document's own 'one' answers of a line.
-/
import Derived.Test.YtmlflmlgjjjmfaaDoorRRead
namespace Go.Proofs.YtmlflmlgjjjmfaaDoor
open Go.RowKit

def lyR (l : List UInt8) : Ly := if okLy l then lyOf l else Ly.z
theorem lyR_yes {l : List UInt8} (h : okLy l = true) : lyR l = lyOf l := by unfold lyR; rw [if_pos h]
theorem lyR_no {l : List UInt8} (h : okLy l = false) : lyR l = Ly.z := by unfold lyR; rw [h]; rfl
def OneR (l : List UInt8) (w : World) (e : Ending) (w' : World) : Prop :=
  e = .returned (.tuple #[.agg #[.int .i64 (lyR l).k, .int .i64 (lyR l).o, .int .i64 (lyR l).s, .int .i64 (lyR l).t], .bool (okLy l)]) ∧ Below w.heap.size w w'
theorem one_no {l : List UInt8} {w w' : World} (h : okLy l = false) (hb : Below w.heap.size w w') : OneR l w (.returned (.tuple #[.agg #[.int .i64 0, .int .i64 0, .int .i64 0, .int .i64 0], .bool false])) w' :=
  ⟨by rw [lyR_no h, h]; rfl, hb⟩
theorem one_yes {l : List UInt8} {w w' : World} {a b c d : Int} (h : okLy l = true) (hl : lyOf l = ⟨a, b, c, d⟩) (hb : Below w.heap.size w w') : OneR l w (.returned (.tuple #[.agg #[.int .i64 a, .int .i64 b, .int .i64 c, .int .i64 d], .bool true])) w' :=
  ⟨by rw [lyR_yes h, hl, h], hb⟩
/-- Which of the four words it is, for the walk's tests. -/
theorem word_tests {t : ByteArray} {k : Int} (h : kindL (bl t) = k) : (t.toList == [99, 111, 110, 118]) = (k == 1) ∧ (t.toList == [115, 113, 117, 97, 114, 101]) = (k == 2) ∧ (t.toList == [112, 111, 111, 108]) = (k == 3) ∧ (t.toList == [100, 101, 110, 115, 101]) = (k == 4) := by
  rw [toList_bl, ← h]
  generalize bl t = l
  have key : ∀ j : Int, kindB j = true → (l == kw j) = (kindL l == j) := fun j hj => by
    rw [Bool.eq_iff_iff, beq_iff_eq, beq_iff_eq]
    constructor
    · intro e; rw [e]; exact kind_kw hj
    · intro e
      have hz : (kindL l == 0) = false := by rw [e]; rcases kind_cases hj with h | h | h | h <;> (rw [h]; rfl)
      have := (kindL_kw l hz).2
      rw [e] at this
      exact this.symm
  exact ⟨key 1 rfl, key 2 rfl, key 3 rfl, key 4 rfl⟩
theorem okLy_of {l : List UInt8} (h1 : okW l = true) (h4 : (tlW l).all getB = true) {k : Int} (hk : kindL (hdW l) = k) : okLy l = (!(k == 0) && ((tlW l).length == (offs k).length)) := by
  unfold okLy; rw [h1, h4, hk]; simp
theorem len1 {l : List Int} (h : l.length = 1) : ∃ a, l = [a] := by
  match l, h with
  | [a], _ => exact ⟨a, rfl⟩
theorem ri_get {w : World} {A : Option Addr} {xs : List Int} (h : Ri w A xs) {j : Nat} (hj : j < xs.length) {b off : Nat} (e : A = some ⟨b, off, none⟩) : w.cell? ⟨b, off + j, none⟩ = some (.int .i64 (xs.getD j 0)) := by
  obtain ⟨b', off', e', _, hc⟩ := h (by omega)
  rw [e] at e'
  cases e'
  exact hc j hj

set_option maxHeartbeats 4000000 in
set_option maxRecDepth 100000 in
theorem rone_any (s : ByteArray) (w : World) (hs : s.size ≤ 100000) : Calls Tryd.prog 23 #[.string s] w (OneR (bl s) w) := by
  go_enter Tryd.func23, Tryd.ntmps23
  go_wp2_with fail
  refine (rread_any s _ hs).mono ?_
  rintro e w1 ⟨t, A, cp, n, b, rfl, hb0, hyes, hb⟩
  have HB := Lib.hid (((Below.refl w.heap.size w).alloc (Nat.le_refl _) (.cells #[.int .i64 0, .int .i64 0, .int .i64 0, .int .i64 0] 42)).trans (hb.mono (by simp)))
  obtain ⟨r0, r1, r2, r3, f0, f1, f2, f3⟩ := ib4 ((ib_box w 42 [0, 0, 0, 0]).below hb)
  have hs1 : w.heap.size < w1.heap.size := by have := hb.size; simp at this; omega
  have HY := Lib.hid hyes; have HB0 := Lib.hid hb0
  clear hb hyes hb0
  cases b
  · have HK : Hid (okLy (bl s) = false) := by
      show _ = _
      have h := HB0.out
      unfold okLy
      cases h1 : okW (bl s)
      · rfl
      · rw [h1] at h
        have h2 : (tlW (bl s)).all getB = false := by simpa using h.symm
        rw [h2, Bool.and_false]
    go_wp2_with fail
    exact bodyPost_ret (v := .tuple #[.agg #[.int .i64 0, .int .i64 0, .int .i64 0, .int .i64 0], .bool false]) (by simp [results, Tryd.results23, go_sem, r0, r1, r2, r3]) rfl (one_no HK.out ((((HB.out.setCell (p := ⟨w.heap.size, 0, none⟩) (Nat.le_refl _) _).setCell (p := ⟨w.heap.size, 1, none⟩) (Nat.le_refl _) _).setCell (p := ⟨w.heap.size, 2, none⟩) (Nat.le_refl _) _).setCell (p := ⟨w.heap.size, 3, none⟩) (Nat.le_refl _) _))
  · obtain ⟨e1, e2, e3⟩ := HY.out rfl
    have hand := HB0.out.symm
    rw [Bool.and_eq_true] at hand
    obtain ⟨k, hk⟩ : ∃ k, kindL (bl t) = k := ⟨_, rfl⟩
    obtain ⟨t1, t2, t3, t4⟩ := word_tests hk
    rw [e1] at hk
    have HOK := Lib.hid (okLy_of hand.1 hand.2 hk)
    have HLy : Hid (lyOf (bl s) = mkL k ((tlW (bl s)).map getN)) := by show _ = _; unfold lyOf; rw [hk]
    have HE2 := Lib.hid e2; have HE3 := Lib.hid e3
    have hnb : n ≤ 1000000 := by
      rw [e2]
      unfold tlW
      rw [List.length_drop, words_yes hand.1]
      have := pieces_len (bl s)
      rw [← size_bl] at this
      omega
    have hkc : k = 1 ∨ k = 2 ∨ k = 3 ∨ k = 4 ∨ (¬ k = 1 ∧ ¬ k = 2 ∧ ¬ k = 3 ∧ ¬ k = 4) := by omega
    have hk0 : ¬ k = 1 → ¬ k = 2 → ¬ k = 3 → ¬ k = 4 → k = 0 := fun a b c d => by
      cases hz : (k == 0)
      · rw [← hk] at hz a b c d
        have := kind_cases (kindL_kw _ hz).1
        omega
      · simpa using hz
    have HK0 := Lib.hid hk0
    clear hk0 e1 e2 e3 hk hand HY HB0
    rcases hkc with h | h | h | h | ⟨h1, h2, h3, h4⟩
    · subst h
      simp only [show ((1 : Int) == 1) = true from rfl, show ((1 : Int) == 2) = false from rfl, show ((1 : Int) == 3) = false from rfl, show ((1 : Int) == 4) = false from rfl] at t1 t2 t3 t4
      by_cases h3 : n = 3
      · have HK : Hid (okLy (bl s) = true) := by show _ = _; rw [HOK.out, ← HE2.out, h3]; rfl
        have hlen : ((tlW (bl s)).map getN).length = 3 := by rw [List.length_map, ← HE2.out, h3]
        obtain ⟨x, y, z, hxyz⟩ := len3 hlen
        have HL : Hid (lyOf (bl s) = ⟨1, x, y, z⟩) := by show _ = _; rw [HLy.out, hxyz]; rfl
        have hR := HE3.out
        rw [hxyz] at hR
        obtain ⟨b1, o1, rfl, l1, hc⟩ := hR (by simp)
        have q0 : w1.cell? ⟨b1, o1, none⟩ = some (.int .i64 x) := hc 0 (by simp)
        have q1 : w1.cell? ⟨b1, o1 + 1, none⟩ = some (.int .i64 y) := hc 1 (by simp)
        have q2 : w1.cell? ⟨b1, o1 + 2, none⟩ = some (.int .i64 z) := hc 2 (by simp)
        subst h3
        clear hc hlen hxyz hR HE2 HE3 HOK HLy
        go_wp2_with fail
        go_still_tail 9, (by kernel_rfl)
        change wpList _ _ _ _ _ w1.drew
        go_wp2_with fail
        exact bodyPost_ret (v := .tuple #[.agg #[.int .i64 1, .int .i64 x, .int .i64 y, .int .i64 z], .bool true]) (by simp [results, Tryd.results23, go_sem, r0, r1, r2, r3]) rfl (one_yes HK.out HL.out ((((HB.out.drew.setCell (p := ⟨w.heap.size, 0, none⟩) (Nat.le_refl _) _).setCell (p := ⟨w.heap.size, 1, none⟩) (Nat.le_refl _) _).setCell (p := ⟨w.heap.size, 2, none⟩) (Nat.le_refl _) _).setCell (p := ⟨w.heap.size, 3, none⟩) (Nat.le_refl _) _))
      · have HK : Hid (okLy (bl s) = false) := by show _ = _; rw [HOK.out, ← HE2.out]; have : (n == 3) = false := by simpa using h3
                                                  show (true && (n == 3)) = false
                                                  rw [this]; rfl
        have g0 : ((n : Int) == 3) = false := ne_beq (by omega)
        have g1 : (n == 3) = false := by simpa using h3
        go_wp2_with fail
        exact bodyPost_ret (v := .tuple #[.agg #[.int .i64 0, .int .i64 0, .int .i64 0, .int .i64 0], .bool false]) (by simp [results, Tryd.results23, go_sem, r0, r1, r2, r3]) rfl (one_no HK.out ((((HB.out.setCell (p := ⟨w.heap.size, 0, none⟩) (Nat.le_refl _) _).setCell (p := ⟨w.heap.size, 1, none⟩) (Nat.le_refl _) _).setCell (p := ⟨w.heap.size, 2, none⟩) (Nat.le_refl _) _).setCell (p := ⟨w.heap.size, 3, none⟩) (Nat.le_refl _) _))
    · subst h
      simp only [show ((2 : Int) == 1) = false from rfl, show ((2 : Int) == 2) = true from rfl, show ((2 : Int) == 3) = false from rfl, show ((2 : Int) == 4) = false from rfl] at t1 t2 t3 t4
      by_cases h3 : n = 0
      · have HK : Hid (okLy (bl s) = true) := by show _ = _; rw [HOK.out, ← HE2.out, h3]; rfl
        have HL : Hid (lyOf (bl s) = ⟨2, 0, 0, 0⟩) := by show _ = _; rw [HLy.out]; rfl
        subst h3
        clear HE2 HE3 HOK HLy
        go_wp2_with fail
        exact bodyPost_ret (v := .tuple #[.agg #[.int .i64 2, .int .i64 0, .int .i64 0, .int .i64 0], .bool true]) (by simp [results, Tryd.results23, go_sem, r0, r1, r2, r3]) rfl (one_yes HK.out HL.out ((((HB.out.setCell (p := ⟨w.heap.size, 0, none⟩) (Nat.le_refl _) _).setCell (p := ⟨w.heap.size, 1, none⟩) (Nat.le_refl _) _).setCell (p := ⟨w.heap.size, 2, none⟩) (Nat.le_refl _) _).setCell (p := ⟨w.heap.size, 3, none⟩) (Nat.le_refl _) _))
      · have g1 : (n == 0) = false := by simpa using h3
        have HK : Hid (okLy (bl s) = false) := by
          show _ = _
          rw [HOK.out, ← HE2.out]
          show (true && (n == 0)) = false
          rw [g1]; rfl
        have g0 : ((n : Int) == 0) = false := ne_beq (by omega)
        go_wp2_with fail
        exact bodyPost_ret (v := .tuple #[.agg #[.int .i64 0, .int .i64 0, .int .i64 0, .int .i64 0], .bool false]) (by simp [results, Tryd.results23, go_sem, r0, r1, r2, r3]) rfl (one_no HK.out ((((HB.out.setCell (p := ⟨w.heap.size, 0, none⟩) (Nat.le_refl _) _).setCell (p := ⟨w.heap.size, 1, none⟩) (Nat.le_refl _) _).setCell (p := ⟨w.heap.size, 2, none⟩) (Nat.le_refl _) _).setCell (p := ⟨w.heap.size, 3, none⟩) (Nat.le_refl _) _))
    · subst h
      simp only [show ((3 : Int) == 1) = false from rfl, show ((3 : Int) == 2) = false from rfl, show ((3 : Int) == 3) = true from rfl, show ((3 : Int) == 4) = false from rfl] at t1 t2 t3 t4
      by_cases h3 : n = 1
      · have HK : Hid (okLy (bl s) = true) := by show _ = _; rw [HOK.out, ← HE2.out, h3]; rfl
        have hlen : ((tlW (bl s)).map getN).length = 1 := by rw [List.length_map, ← HE2.out, h3]
        obtain ⟨x, hxyz⟩ := len1 hlen
        have HL : Hid (lyOf (bl s) = ⟨3, 0, x, 0⟩) := by show _ = _; rw [HLy.out, hxyz]; rfl
        have hR := HE3.out
        rw [hxyz] at hR
        obtain ⟨b1, o1, rfl, l1, hc⟩ := hR (by simp)
        have q0 : w1.cell? ⟨b1, o1, none⟩ = some (.int .i64 x) := hc 0 (by simp)
        subst h3
        clear hc hlen hxyz hR HE2 HE3 HOK HLy
        go_wp2_with fail
        exact bodyPost_ret (v := .tuple #[.agg #[.int .i64 3, .int .i64 0, .int .i64 x, .int .i64 0], .bool true]) (by simp [results, Tryd.results23, go_sem, r0, r1, r2, r3]) rfl (one_yes HK.out HL.out ((((HB.out.setCell (p := ⟨w.heap.size, 0, none⟩) (Nat.le_refl _) _).setCell (p := ⟨w.heap.size, 1, none⟩) (Nat.le_refl _) _).setCell (p := ⟨w.heap.size, 2, none⟩) (Nat.le_refl _) _).setCell (p := ⟨w.heap.size, 3, none⟩) (Nat.le_refl _) _))
      · have g1 : (n == 1) = false := by simpa using h3
        have HK : Hid (okLy (bl s) = false) := by
          show _ = _
          rw [HOK.out, ← HE2.out]
          show (true && (n == 1)) = false
          rw [g1]; rfl
        have g0 : ((n : Int) == 1) = false := ne_beq (by omega)
        go_wp2_with fail
        exact bodyPost_ret (v := .tuple #[.agg #[.int .i64 0, .int .i64 0, .int .i64 0, .int .i64 0], .bool false]) (by simp [results, Tryd.results23, go_sem, r0, r1, r2, r3]) rfl (one_no HK.out ((((HB.out.setCell (p := ⟨w.heap.size, 0, none⟩) (Nat.le_refl _) _).setCell (p := ⟨w.heap.size, 1, none⟩) (Nat.le_refl _) _).setCell (p := ⟨w.heap.size, 2, none⟩) (Nat.le_refl _) _).setCell (p := ⟨w.heap.size, 3, none⟩) (Nat.le_refl _) _))
    · subst h
      simp only [show ((4 : Int) == 1) = false from rfl, show ((4 : Int) == 2) = false from rfl, show ((4 : Int) == 3) = false from rfl, show ((4 : Int) == 4) = true from rfl] at t1 t2 t3 t4
      by_cases h3 : n = 1
      · have HK : Hid (okLy (bl s) = true) := by show _ = _; rw [HOK.out, ← HE2.out, h3]; rfl
        have hlen : ((tlW (bl s)).map getN).length = 1 := by rw [List.length_map, ← HE2.out, h3]
        obtain ⟨x, hxyz⟩ := len1 hlen
        have HL : Hid (lyOf (bl s) = ⟨4, x, 0, 0⟩) := by show _ = _; rw [HLy.out, hxyz]; rfl
        have hR := HE3.out
        rw [hxyz] at hR
        obtain ⟨b1, o1, rfl, l1, hc⟩ := hR (by simp)
        have q0 : w1.cell? ⟨b1, o1, none⟩ = some (.int .i64 x) := hc 0 (by simp)
        subst h3
        clear hc hlen hxyz hR HE2 HE3 HOK HLy
        go_wp2_with fail
        exact bodyPost_ret (v := .tuple #[.agg #[.int .i64 4, .int .i64 x, .int .i64 0, .int .i64 0], .bool true]) (by simp [results, Tryd.results23, go_sem, r0, r1, r2, r3]) rfl (one_yes HK.out HL.out ((((HB.out.setCell (p := ⟨w.heap.size, 0, none⟩) (Nat.le_refl _) _).setCell (p := ⟨w.heap.size, 1, none⟩) (Nat.le_refl _) _).setCell (p := ⟨w.heap.size, 2, none⟩) (Nat.le_refl _) _).setCell (p := ⟨w.heap.size, 3, none⟩) (Nat.le_refl _) _))
      · have g1 : (n == 1) = false := by simpa using h3
        have HK : Hid (okLy (bl s) = false) := by
          show _ = _
          rw [HOK.out, ← HE2.out]
          show (true && (n == 1)) = false
          rw [g1]; rfl
        have g0 : ((n : Int) == 1) = false := ne_beq (by omega)
        go_wp2_with fail
        exact bodyPost_ret (v := .tuple #[.agg #[.int .i64 0, .int .i64 0, .int .i64 0, .int .i64 0], .bool false]) (by simp [results, Tryd.results23, go_sem, r0, r1, r2, r3]) rfl (one_no HK.out ((((HB.out.setCell (p := ⟨w.heap.size, 0, none⟩) (Nat.le_refl _) _).setCell (p := ⟨w.heap.size, 1, none⟩) (Nat.le_refl _) _).setCell (p := ⟨w.heap.size, 2, none⟩) (Nat.le_refl _) _).setCell (p := ⟨w.heap.size, 3, none⟩) (Nat.le_refl _) _))
    · have hz := HK0.out h1 h2 h3 h4
      have HK : Hid (okLy (bl s) = false) := by show _ = _; rw [HOK.out, hz]; rfl
      rw [ne_beq h1] at t1
      rw [ne_beq h2] at t2
      rw [ne_beq h3] at t3
      rw [ne_beq h4] at t4
      clear hz h1 h2 h3 h4 HOK HLy HK0
      go_wp2_with fail
      exact bodyPost_ret (v := .tuple #[.agg #[.int .i64 0, .int .i64 0, .int .i64 0, .int .i64 0], .bool false]) (by simp [results, Tryd.results23, go_sem, r0, r1, r2, r3]) rfl (one_no HK.out ((((HB.out.setCell (p := ⟨w.heap.size, 0, none⟩) (Nat.le_refl _) _).setCell (p := ⟨w.heap.size, 1, none⟩) (Nat.le_refl _) _).setCell (p := ⟨w.heap.size, 2, none⟩) (Nat.le_refl _) _).setCell (p := ⟨w.heap.size, 3, none⟩) (Nat.le_refl _) _))

end Go.Proofs.YtmlflmlgjjjmfaaDoor
