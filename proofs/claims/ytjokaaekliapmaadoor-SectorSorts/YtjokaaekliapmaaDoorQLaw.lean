/-
  How what comes in is read as sectors, for all laws of layers 16 and on.
-/
import Derived.Test.YtjokaaekliapmaaDoorCLaw
import Derived.Test.YtjokaaekliapmaaDoorQMath
namespace Go.Proofs.YtjokaaekliapmaaDoor
open Go.ChangeShapes Go.WideShapes Go.ChangeAt Go.RowKit Go.Deep

theorem Tryd.cells24 : Tryd.prog.cellsOf 24 = 5 := by kernel_rfl
theorem Tryd.icell : Tryd.prog.cellsOf 3 = 1 := by kernel_rfl
theorem Tryd.icell64 : Tryd.prog.cellsOf 2 = 1 := by kernel_rfl
theorem hfive {α : Type} {l : List α} (h : l.length = 5) : ∃ a b c d e, l = [a, b, c, d, e] := by
  match l, h with
  | [a, b, c, d, e], _ => exact ⟨a, b, c, d, e, rfl⟩
theorem i_open {H : Type} {enc : TypeId × Value → H} {W : World} {fuel : Nat} {v : Value} {y : DataW H × List MemPlace} (h : DataW.trod enc Tryd.prog W 0 (fun _ => true) true fuel 3 [v] = some y) : ∃ u : Int, v = .int .i64 u := by
  obtain ⟨n, hc, _, hw⟩ := DataW.trod_int Tryd.underlying3 h
  exact ⟨n, by simpa using hc⟩
theorem i64_open {H : Type} {enc : TypeId × Value → H} {W : World} {fuel : Nat} {v : Value} {y : DataW H × List MemPlace} (h : DataW.trod enc Tryd.prog W 0 (fun _ => true) true fuel 2 [v] = some y) : ∃ u : Int, v = .int .i64 u := by
  obtain ⟨n, hc, _, hw⟩ := DataW.trod_int Tryd.underlying2 h
  exact ⟨n, by simpa using hc⟩
theorem bs_open {H : Type} {enc : TypeId × Value → H} {W : World} {fuel : Nat} {v : Value} {y : DataW H × List MemPlace} (h : DataW.trod enc Tryd.prog W 0 (fun _ => true) true fuel 22 [v] = some y) :
    ∃ A n c, ∃ us : List UInt8, v = .slice A n c ∧ n = us.length ∧ Rg bcells W A us ∧ n ≤ c := by
  rcases open_ints Tryd.underlying22 Tryd.underlying5 Tryd.bcells1 h with ⟨hcs, _⟩ | ⟨x, l, c, zs, hcs, _, hl, hm, hz, _, hcell, hwz⟩
  · simp at hcs
    subst hcs
    exact ⟨none, 0, 0, [], rfl, rfl, Rg.nil _ _ _, Nat.le_refl _⟩
  · simp at hcs
    subst hcs
    obtain ⟨us, h1, h2⟩ := rgb_of_cells (len := l) (by have : zs.length = c := by simpa using hz
                                                       omega) hcell hwz
    exact ⟨some x, l, c, us, rfl, h1, h2, hl⟩
set_option maxRecDepth 100000 in
theorem sec_open {H : Type} {enc : TypeId × Value → H} {W : World} {base : Nat} {v : Value} {d : DataW H} {p : List MemPlace} (hv : Value.okWide Tryd.prog W .any base 24 v)
    (h : DataW.Trod enc Tryd.prog W 0 (fun _ => true) true 24 v d p) : ∃ (g p t k : Int) (A : Option Addr) (n c : Nat) (us : List UInt8), v = .agg #[.int .i64 g, .int .i64 p, .int .i64 t, .int .i64 k, .slice A n c] ∧ n = us.length ∧ Rg bcells W A us ∧ n ≤ c := by
  obtain ⟨cs, rfl, hsz⟩ := okWide_struct Tryd.underlying24 hv
  obtain ⟨l⟩ := cs
  obtain ⟨v0, v1, v2, v3, v4, rfl⟩ := hfive (show l.length = 5 from hsz.trans Tryd.cells24)
  obtain ⟨fuel, hf⟩ := h
  obtain ⟨xs, n, _, _, _, hlen, hg⟩ := DataW.trod_struct Tryd.underlying24 hf
  have g0 := hg 0 _ rfl
  have g1 := hg 1 _ rfl
  have g2 := hg 2 _ rfl
  have g3 := hg 3 _ rfl
  have g4 := hg 4 _ rfl
  obtain ⟨y0, y1, y2, y3, y4, rfl⟩ := hfive hlen
  simp [Value.cells, Tryd.icell, Tryd.icell64, Tryd.hcells1] at g0 g1 g2 g3 g4
  obtain ⟨g, rfl⟩ := i64_open g0
  obtain ⟨p, rfl⟩ := i_open g1
  obtain ⟨t, rfl⟩ := i_open g2
  obtain ⟨k, rfl⟩ := i_open g3
  obtain ⟨A, n, c, us, rfl, h1, h2, h3⟩ := bs_open g4
  exact ⟨g, p, t, k, A, n, c, us, rfl, h1, h2, h3⟩

end Go.Proofs.YtjokaaekliapmaaDoor
