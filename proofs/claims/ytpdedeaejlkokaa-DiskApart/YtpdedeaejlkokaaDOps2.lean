/-
  Scripts in memory: rows of calls.
-/
import Derived.Test.YtpdedeaejlkokaaDOps
namespace Go.Proofs.Ytpdedeaejlkokaa
open Go.RowKit

def ocells (x : Dop × Hd × Hd) : List Value := [.int .i64 x.1.w, .int .i64 x.1.a, .int .u8 (bz x.1.c), .slice x.2.1.a x.2.1.n x.2.1.c, .int .i64 x.1.n, .slice x.2.2.a x.2.2.n x.2.2.c]
theorem ocells_len (x : Dop × Hd × Hd) : (ocells x).length = 6 := rfl
/-- Booleans behind a slice's head. -/
def HQ (w : World) (h : Hd) (l : List Bool) : Prop := h.n = l.length ∧ h.n ≤ h.c ∧ Rg qcells w h.a l
/-- A script. -/
def OpR (w : World) (A : Option Addr) (os : List Dop) : Prop := ∃ hs : List (Dop × Hd × Hd), Rg ocells w A hs ∧ hs.map (·.1) = os ∧ ∀ x ∈ hs, HB w x.2.1 x.1.b ∧ HQ w x.2.2 x.1.k
theorem OpR.below {w w' : World} {A : Option Addr} {os : List Dop} (H : OpR w A os) (hb : Below w.heap.size w w') : OpR w' A os := by
  obtain ⟨hs, h1, h2, h3⟩ := H
  exact ⟨hs, h1.below hb, h2, fun x hx => ⟨(h3 x hx).1.below hb, (h3 x hx).2.1, (h3 x hx).2.2.1, (h3 x hx).2.2.2.below hb⟩⟩
theorem rg_low {α : Type} {f : α → List Value} {w : World} {A : Option Addr} {xs : List α} (H : Rg f w A xs) (h0 : 0 < xs.length) : ∀ a, A = some a → a.block < w.heap.size := fun a ha => by
  obtain ⟨b, o, e, lt, _⟩ := H h0
  rw [ha] at e
  obtain rfl := Option.some.inj e
  exact lt
/-- A script's call number k. -/
theorem OpR.at {w : World} {A : Option Addr} {os : List Dop} (H : OpR w A os) {k : Nat} {o : Dop} (hk : os[k]? = some o) :
    ∃ b off hb hq, A = some ⟨b, off, none⟩ ∧ b < w.heap.size ∧ w.cell? ⟨b, off + k * 6, none⟩ = some (.int .i64 o.w) ∧ w.cell? ⟨b, off + k * 6 + 1, none⟩ = some (.int .i64 o.a) ∧ w.cell? ⟨b, off + k * 6 + 2, none⟩ = some (.int .u8 (bz o.c)) ∧ w.cell? ⟨b, off + k * 6 + 3, none⟩ = some (.slice hb.a hb.n hb.c) ∧ w.cell? ⟨b, off + k * 6 + 4, none⟩ = some (.int .i64 o.n) ∧ w.cell? ⟨b, off + k * 6 + 5, none⟩ = some (.slice hq.a hq.n hq.c) ∧ HB w hb o.b ∧ HQ w hq o.k := by
  obtain ⟨hs, h1, h2, h3⟩ := H
  rw [← h2, List.getElem?_map] at hk
  rcases e : hs[k]? with _ | x
  · rw [e] at hk; cases hk
  rw [e] at hk
  obtain rfl := Option.some.inj hk
  have hl := (List.getElem?_eq_some_iff.1 e).1
  obtain ⟨b, off, rfl, lt, hc⟩ := h1 (by omega)
  obtain ⟨q1, q2⟩ := h3 x (List.mem_of_getElem? e)
  have get : ∀ r, r < 6 → w.cell? ⟨b, off + k * 6 + r, none⟩ = (ocells x)[r]? := fun r hr => by
    have g := flat_get ocells_len hs k r x e hr
    have hv : ∃ v, (ocells x)[r]? = some v := ⟨_, List.getElem?_eq_getElem (by rw [ocells_len]; exact hr)⟩
    obtain ⟨v, hv⟩ := hv
    rw [hv] at g ⊢
    rw [Nat.add_assoc]
    exact hc _ _ g
  exact ⟨b, off, x.2.1, x.2.2, rfl, lt, get 0 (by decide), get 1 (by decide), get 2 (by decide), get 3 (by decide), get 4 (by decide), get 5 (by decide), q1, q2⟩

end Go.Proofs.Ytpdedeaejlkokaa
