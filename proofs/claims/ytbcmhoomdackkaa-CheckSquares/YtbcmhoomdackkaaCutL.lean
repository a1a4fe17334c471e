/-
  A row of layers, cut: what lies ahead of a place, and what lies behind.
-/
import Derived.Test.YtbcmhoomdackkaaAppendL
namespace Go.Proofs.Ytbcmhoomdackkaa
open Go.RowKit

theorem rl_drop {w : World} {b off : Nat} {ls : List Ly} (h : Rl w (some ⟨b, off, none⟩) ls) (k : Nat) : Rl w (some ⟨b, off + k * 4, none⟩) (ls.drop k) := fun h0 => by
  rw [List.length_drop] at h0
  obtain ⟨b', off', e, hlt, hc⟩ := h (by omega)
  cases e
  refine ⟨_, _, rfl, hlt, fun j hj => ?_⟩
  rw [List.length_drop] at hj
  have e1 : (ls.drop k).getD j Ly.z = ls.getD (k + j) Ly.z := by
    rw [List.getD_eq_getElem?_getD, List.getD_eq_getElem?_getD, List.getElem?_drop]
  rw [e1, show off + k * 4 + j * 4 = off + (k + j) * 4 by omega]
  exact hc (k + j) (by omega)
/-- 'n.Layers[j:]': what it is. -/
theorem cut_rest (b o n cap j : Nat) (h1 : j ≤ n) (hcap : n ≤ cap) :
    ∃ A2 c2, (∀ w, (Instr.slice 24 (.slice (some ⟨b, o, none⟩) n cap) (some (.int .i64 (j : Int))) none none).run Try.prog w = .ok (.slice A2 (n - j) c2) w) ∧
      (∀ w ls, Rl w (some ⟨b, o, none⟩) ls → ls.length = n → Rl w A2 (ls.drop j)) := by
  by_cases hc : cap = j
  · subst hc
    obtain rfl : n = cap := by omega
    refine ⟨some ⟨b, o, none⟩, 0, fun w => by go_simp, fun w ls _ hl => ?_⟩
    rw [List.drop_of_length_le (by omega)]
    exact fun h0 => absurd h0 (by simp)
  · exact ⟨some ⟨b, o + j * 4, none⟩, cap - j, fun w => by first | (go_simp; done) | (go_simp; intro h; omega), fun w ls hR _ => rl_drop hR j⟩

end Go.Proofs.Ytbcmhoomdackkaa
