/-
  What the document's own Same of layer 16 answers, of any two sectors.
-/
import Derived.Test.YtjokaaekliapmaaDoorQRef2
namespace Go.Proofs.YtjokaaekliapmaaDoor
open Go.RowKit

def sameQ (s t : Sec) : Bool := decide (s.g = t.g ∧ s.p = t.p ∧ s.t = t.t ∧ s.k = t.k ∧ s.b = t.b)
theorem same_no {s t : Sec} (h : ¬ (s.g = t.g ∧ s.p = t.p ∧ s.t = t.t ∧ s.k = t.k ∧ s.b = t.b)) : sameQ s t = false := decide_eq_false h

set_option maxHeartbeats 8000000 in
set_option maxRecDepth 100000 in
theorem rsameg16 (g p t k g2 p2 t2 k2 : Int) (b b2 : List UInt8) (A B : Option Addr) (n c m d : Nat) (w : World) (h1 : n = b.length) (h2 : m = b2.length) (ra : Rg bcells w A b) (rb : Rg bcells w B b2) :
    Calls Tryd.prog 16 #[.agg #[.int .i64 g, .int .i64 p, .int .i64 t, .int .i64 k, .slice A n c], .agg #[.int .i64 g2, .int .i64 p2, .int .i64 t2, .int .i64 k2, .slice B m d]] w fun e w' => e = .returned (.bool (sameQ ⟨g, p, t, k, b⟩ ⟨g2, p2, t2, k2, b2⟩)) ∧ Below w.heap.size w w' := by
  by_cases eg : g = g2
  rotate_left
  · have E : Hid (sameQ ⟨g, p, t, k, b⟩ ⟨g2, p2, t2, k2, b2⟩ = false) := same_no (fun z => eg (by simp only at z; omega))
    clear ra rb h1 h2
    go_enter Tryd.func16, Tryd.ntmps16
    go_wp2_with fail
    go_ret
    exact ⟨by rw [E.out]; rfl, chain_alloc (chain_alloc (Below.refl _ w) _) _⟩
  subst eg
  by_cases ep : p = p2
  rotate_left
  · have E : Hid (sameQ ⟨g, p, t, k, b⟩ ⟨g, p2, t2, k2, b2⟩ = false) := same_no (fun z => ep (by simp only at z; omega))
    clear ra rb h1 h2
    go_enter Tryd.func16, Tryd.ntmps16
    go_wp2_with fail
    go_ret
    exact ⟨by rw [E.out]; rfl, chain_alloc (chain_alloc (Below.refl _ w) _) _⟩
  subst ep
  by_cases et : t = t2
  rotate_left
  · have E : Hid (sameQ ⟨g, p, t, k, b⟩ ⟨g, p, t2, k2, b2⟩ = false) := same_no (fun z => et (by simp only at z; omega))
    clear ra rb h1 h2
    go_enter Tryd.func16, Tryd.ntmps16
    go_wp2_with fail
    go_ret
    exact ⟨by rw [E.out]; rfl, chain_alloc (chain_alloc (Below.refl _ w) _) _⟩
  subst et
  by_cases ek : k = k2
  rotate_left
  · have E : Hid (sameQ ⟨g, p, t, k, b⟩ ⟨g, p, t, k2, b2⟩ = false) := same_no (fun z => ek (by simp only at z; omega))
    clear ra rb h1 h2
    go_enter Tryd.func16, Tryd.ntmps16
    go_wp2_with fail
    go_ret
    exact ⟨by rw [E.out]; rfl, chain_alloc (chain_alloc (Below.refl _ w) _) _⟩
  subst ek
  have t1 := fun w' (hb : Below w.heap.size w w') => text_of (c := c) (ra.below hb) h1
  have t2 := fun w' (hb : Below w.heap.size w w') => text_of (c := d) (rb.below hb) h2
  have y1 := t1 ((w.alloc (.cells #[.int .i64 g, .int .i64 p, .int .i64 t, .int .i64 k, .slice A n c] 24)).alloc (.cells #[.int .i64 g, .int .i64 p, .int .i64 t, .int .i64 k, .slice B m d] 24)) (chain_alloc (chain_alloc (Below.refl _ w) _) _)
  have y2 := t2 ((w.alloc (.cells #[.int .i64 g, .int .i64 p, .int .i64 t, .int .i64 k, .slice A n c] 24)).alloc (.cells #[.int .i64 g, .int .i64 p, .int .i64 t, .int .i64 k, .slice B m d] 24)) (chain_alloc (chain_alloc (Below.refl _ w) _) _)
  have E : Hid (sameQ ⟨g, p, t, k, b⟩ ⟨g, p, t, k, b2⟩ = (b == b2)) := by
    show _ = _
    unfold sameQ
    by_cases q : b = b2
    · simp [q]
    · simp [q]
  have ne := tx_same b b2
  obtain ⟨r, hr⟩ : ∃ r, r = (b == b2) := ⟨_, rfl⟩
  rw [← hr] at ne E
  clear t1 t2 h1 h2 ra rb hr
  go_enter Tryd.func16, Tryd.ntmps16
  go_wp2_with fail
  go_ret
  exact ⟨by rw [E.out]; rfl, chain_alloc (chain_alloc (Below.refl _ w) _) _⟩

end Go.Proofs.YtjokaaekliapmaaDoor
