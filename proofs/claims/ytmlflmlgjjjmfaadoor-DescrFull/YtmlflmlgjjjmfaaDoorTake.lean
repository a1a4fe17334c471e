/-
  What 'linesOf' answers of a text, and what 'take' makes of a line.
-/
import Derived.Test.YtmlflmlgjjjmfaaDoorPrint
import Derived.Deep.RegionHeld3
import Derived.Deep.AppendLies
namespace Go.Proofs.YtmlflmlgjjjmfaaDoor
open Go.RowKit

def LinesPost (s : List UInt8) (w : World) (e : Ending) (w' : World) : Prop :=
  ∃ (A : Option Addr) (k n : Nat), e = .returned (.slice A n k) ∧ n = (linesB s).length ∧ w'.ownsRow w.heap.size 9 1 (.slice A n k) n (cellsOf (linesB s)) ∧ Below w.heap.size w w'
theorem emp_facts {s : ByteArray} {b : Bool} (h : (bl s == []) = b) : s.toList.isEmpty = b ∧ (s.toList == []) = b ∧ ((!s.toList.isEmpty) = !b) := by
  rw [toList_bl]
  subst h
  cases bl s <;> exact ⟨rfl, rfl, rfl⟩

set_option maxHeartbeats 2000000 in
theorem linesOf_any (s : ByteArray) (w : World) (hs : s.size ≤ 100000) :
    Calls Tryd.prog 20 #[.string s] w (LinesPost (bl s) w) := by
  obtain ⟨i0, hi, hz0, hz1, hz2⟩ := info_parts Tryd.info9
  go_enter Tryd.func20, Tryd.ntmps20
  go_wp2_with fail
  refine (lines_own s w hs).mono ?_
  rintro e w1 ⟨A, cp, n, rfl, hn, ho, hb⟩
  have HO := Lib.hid ho; have HN := Lib.hid hn; have HB := Lib.hid hb
  have hs1 := hb.size
  have hlen : n ≤ 100000 := by
    have h1 := cut_count 10 (bl s)
    have h2 := List.count_le_length (a := (10 : UInt8)) (l := bl s)
    rw [← size_bl] at h2
    omega
  clear ho hn hb
  obtain ⟨t, HT⟩ : ∃ t, Hid (t = (cutF 10 (bl s)).2) := ⟨_, rfl⟩
  rw [← HT.out]
  obtain ⟨d1, d2, d3⟩ := emp_facts (s := s) rfl
  obtain ⟨f1, f2, f3⟩ := emp_facts (s := ba t) rfl
  rw [bl_ba] at f1 f2 f3
  by_cases hc : bl s = [] ∨ t ≠ []
  · have HL : Hid (linesB (bl s) = (cutF 10 (bl s)).1 ++ [[]]) := by
      show _ = _
      unfold linesB
      rw [if_pos]
      rw [← HT.out]; exact hc
    have hcase : (bl s == []) = true ∨ ((bl s == []) = false ∧ (t == []) = false) := by
      cases h : bl s with
      | nil => exact .inl rfl
      | cons a b =>
        refine .inr ⟨rfl, ?_⟩
        rcases hc with hc | hc
        · rw [h] at hc; exact absurd hc (by simp)
        · cases t with
          | nil => exact absurd rfl hc
          | cons a b => rfl
    clear hc
    rcases hcase with h | ⟨h, h'⟩
    all_goals
      rw [h] at d1 d2 d3
      clear h
      try (rw [h'] at f1 f2 f3; clear h')
      go_wp2_with (at_builtin; refine wpList_append_own _ rfl _ _ 35 rfl w.heap.size 9 i0 (.string ⟨#[]⟩) 1 16 Tryd.underlying35 hi hz0 hz1 hz2 rfl (by decide) _ _ _ rfl (HO.out.alloc _) ⟨w1.heap.size, 0, none⟩ 1 1 [.string ⟨#[]⟩] rfl rfl (by intro j u hj; match j, hj with | 0, hj => (simp at hj; subst hj; simp [Addr.add])) (by intro u hu; simp at hu; subst hu; rfl) (by unfold maxLen; omega) (by omega) (by simp; omega) ?_)
      intro v' w2 hown2 hgrow _
      have HO2 : Hid (w2.ownsRow w.heap.size 9 1 v' (n + 1) (cellsOf (linesB (bl s)))) := by
        show w2.ownsRow _ _ _ _ _ _
        rw [HL.out, cellsOf_append]
        exact hown2
      have HB2 : Hid (Below w.heap.size w w2) := (HB.out.alloc (by omega) _).grown hgrow (by simp; omega) (fun q hqq => (HO.out.lt _ hqq).1)
      have HN2 : Hid (n + 1 = (linesB (bl s)).length) := by show _ = _; rw [HL.out, List.length_append, ← HN.out]; rfl
      clear hown2 hgrow
      obtain ⟨A2, c2, rfl, _, _⟩ := own_row HO2.out
      go_wp2_with fail
      go_ret
      exact ⟨A2, c2, n + 1, rfl, HN2.out, HO2.out, HB2.out⟩
  · have HL : Hid (linesB (bl s) = (cutF 10 (bl s)).1) := by
      show _ = _
      unfold linesB
      rw [if_neg]
      rw [← HT.out]; exact hc
    rw [not_or] at hc
    have h : (bl s == []) = false := by
      cases h : bl s with
      | nil => exact absurd h hc.1
      | cons a b => rfl
    have h' : (t == []) = true := by
      cases t with
      | nil => rfl
      | cons a b => exact absurd (by simp) hc.2
    rw [h] at d1 d2 d3
    rw [h'] at f1 f2 f3
    clear h h' hc
    go_wp2_with fail
    go_ret
    exact ⟨A, cp, n, rfl, by rw [HL.out]; exact HN.out, by rw [HL.out]; exact HO.out, HB.out⟩

end Go.Proofs.YtmlflmlgjjjmfaaDoor
