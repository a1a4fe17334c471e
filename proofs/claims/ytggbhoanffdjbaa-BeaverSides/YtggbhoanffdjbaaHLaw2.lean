/-
  How what comes in is read as triples, and openings, for all laws of layers 12 and on.
-/
import Derived.Test.YtggbhoanffdjbaaHLaw
import Derived.Test.YtggbhoanffdjbaaKMath
namespace Go.Proofs.Ytggbhoanffdjbaa
open Go.ChangeShapes Go.WideShapes Go.ChangeAt Go.RowKit Go.Deep

theorem Try.cells37 : Try.prog.cellsOf 37 = 3 := by kernel_rfl
theorem Try.cells44 : Try.prog.cellsOf 44 = 2 := by kernel_rfl
theorem htwo {α : Type} {l : List α} (h : l.length = 2) : ∃ a b, l = [a, b] := by
  match l, h with
  | [a, b], _ => exact ⟨a, b, rfl⟩
theorem hthree {α : Type} {l : List α} (h : l.length = 3) : ∃ a b c, l = [a, b, c] := by
  match l, h with
  | [a, b, c], _ => exact ⟨a, b, c, rfl⟩
theorem u_open {H : Type} {enc : TypeId × Value → H} {W : World} {fuel : Nat} {v : Value} {y : DataW H × List MemPlace} (h : DataW.trod enc Try.prog W 0 (fun _ => true) true fuel 23 [v] = some y) : ∃ u : UInt64, v = .int .u64 (uz u) := by
  obtain ⟨n, hc, _, hw⟩ := DataW.trod_int Try.underlying23 h
  obtain ⟨u, rfl⟩ := su64_of_wf hw
  exact ⟨u, by simpa using hc⟩
set_option maxRecDepth 100000 in
theorem triple_open {H : Type} {enc : TypeId × Value → H} {W : World} {base : Nat} {v : Value} {d : DataW H} {p : List MemPlace} (hv : Value.okWide Try.prog W .any base 37 v)
    (h : DataW.Trod enc Try.prog W 0 (fun _ => true) true 37 v d p) : ∃ t : Tp, v = tpv t := by
  obtain ⟨cs, rfl, hsz⟩ := okWide_struct Try.underlying37 hv
  obtain ⟨l⟩ := cs
  obtain ⟨v0, v1, v2, rfl⟩ := hthree (show l.length = 3 from hsz.trans Try.cells37)
  obtain ⟨fuel, hf⟩ := h
  obtain ⟨xs, n, _, _, _, hlen, hg⟩ := DataW.trod_struct Try.underlying37 hf
  have g0 := hg 0 _ rfl
  have g1 := hg 1 _ rfl
  have g2 := hg 2 _ rfl
  obtain ⟨y0, y1, y2, rfl⟩ := hthree hlen
  simp [Value.cells, Try.hcells] at g0 g1 g2
  obtain ⟨x, rfl⟩ := u_open g0
  obtain ⟨y, rfl⟩ := u_open g1
  obtain ⟨z, rfl⟩ := u_open g2
  exact ⟨⟨x, y, z⟩, rfl⟩
set_option maxRecDepth 100000 in
theorem open_open {H : Type} {enc : TypeId × Value → H} {W : World} {base : Nat} {v : Value} {d : DataW H} {p : List MemPlace} (hv : Value.okWide Try.prog W .any base 44 v)
    (h : DataW.Trod enc Try.prog W 0 (fun _ => true) true 44 v d p) : ∃ o : On, v = onv o := by
  obtain ⟨cs, rfl, hsz⟩ := okWide_struct Try.underlying44 hv
  obtain ⟨l⟩ := cs
  obtain ⟨v0, v1, rfl⟩ := htwo (show l.length = 2 from hsz.trans Try.cells44)
  obtain ⟨fuel, hf⟩ := h
  obtain ⟨xs, n, _, _, _, hlen, hg⟩ := DataW.trod_struct Try.underlying44 hf
  have g0 := hg 0 _ rfl
  have g1 := hg 1 _ rfl
  obtain ⟨y0, y1, rfl⟩ := htwo hlen
  simp [Value.cells, Try.hcells] at g0 g1
  obtain ⟨x, rfl⟩ := u_open g0
  obtain ⟨y, rfl⟩ := u_open g1
  exact ⟨⟨x, y⟩, rfl⟩

end Go.Proofs.Ytggbhoanffdjbaa
