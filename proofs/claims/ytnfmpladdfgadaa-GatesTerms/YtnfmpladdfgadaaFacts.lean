/-
  What a right network's layers are: apart from any program.
-/
import Derived.Test.YtnfmpladdfgadaaHead
namespace Go.Proofs.Ytnfmpladdfgadaa
open Go.RowKit

theorem at_none {N : Nt} (e : errN N ≠ 0) (i : Int) : atN N i = Kn.z := at_out (by rw [knN_no e]; simp)
theorem at_some {c h x : Int} {ls : List Ly} (e : errN ⟨c, h, x, ls⟩ = 0) {k : Nat} {l : Ly} (hl : ls[k]? = some l) :
    atN ⟨c, h, x, ls⟩ (k : Int) = ⟨l, endS ⟨c, h, x⟩ (ls.take k), outS (endS ⟨c, h, x⟩ (ls.take k)) l, sumW ⟨c, h, x⟩ (ls.take k)⟩ := by
  have hk : k < ls.length := (List.getElem?_eq_some_iff.1 hl).1
  have g := kn_get ls ⟨c, h, x⟩ 0 k l hl
  rw [← knN_ok e, Int.zero_add] at g
  have hk2 : k < (knN ⟨c, h, x, ls⟩).length := by rw [knN_ok e, kn_len]; exact hk
  rw [at_in (by omega) (by omega), Int.toNat_natCast]
  have g2 := kn_get? hk2
  rw [g] at g2
  exact (Option.some.inj g2).symm
theorem tots {c h x : Int} {ls : List Ly} (e : errN ⟨c, h, x, ls⟩ = 0) : totW (knN ⟨c, h, x, ls⟩) = sumW ⟨c, h, x⟩ ls ∧ totP (knN ⟨c, h, x, ls⟩) = sumP ⟨c, h, x⟩ ls := by
  rw [knN_ok e, tot_w, tot_p]; exact ⟨rfl, rfl⟩
theorem ok_all {c h x : Int} {ls : List Ly} (e : errN ⟨c, h, x, ls⟩ = 0) : rightB c h x = true ∧ ls.all lyB = true ∧ fitL ⟨c, h, x⟩ ls = true ∧ sumW ⟨c, h, x⟩ ls ≤ 512 ∧ sumP ⟨c, h, x⟩ ls ≤ 512 ∧ ls.length ≤ 8 := by
  obtain ⟨f, r, t, a, b⟩ := ok_parts e
  obtain ⟨_, f2, f3⟩ := form_parts f
  exact ⟨r, f3, t, a, b, f2⟩
theorem fit_take {s : Sh} {ls : List Ly} (h : fitL s ls = true) (k : Nat) : fitL s (ls.take k) = true := by
  rw [← List.take_append_drop k ls, fit_app, Bool.and_eq_true] at h; exact h.1
theorem fit_at {s : Sh} {ls : List Ly} (h : fitL s ls = true) {k : Nat} {l : Ly} (hl : ls[k]? = some l) : okS (endS s (ls.take k)) l = true := by
  cases o : okS (endS s (ls.take k)) l
  · rw [fit_stop hl o] at h; cases h
  · rfl
/-- What a right network's layer is. -/
theorem layer_facts {c h x : Int} {ls : List Ly} (e : errN ⟨c, h, x, ls⟩ = 0) {k : Nat} {l : Ly} (hl : ls[k]? = some l) :
    lyB l = true ∧ (endS ⟨c, h, x⟩ (ls.take k)).r = true ∧ okS (endS ⟨c, h, x⟩ (ls.take k)) l = true := by
  obtain ⟨r, f3, t, _, _, _⟩ := ok_all e
  exact ⟨List.all_eq_true.1 f3 l (List.mem_of_getElem? hl), end_right _ _ r (all_take f3 k) (fit_take t k), fit_at t hl⟩

end Go.Proofs.Ytnfmpladdfgadaa
