/-
  How what comes in is read as texts and networks, and what the laid tables give, for all laws of layer 4.
-/
import Derived.Test.YtmlflmlgjjjmfaaDoorHead
import Derived.ProofKit
import Derived.OpenShut
import Derived.ChangeOld
import Derived.LaidMore
import Derived.Stop.Joined
import Derived.Stop.LaidErr
import Derived.Deep.Strs
import Derived.Deep.Slices
import Derived.Deep.Fields
import Derived.ChangeSame
namespace Go.Proofs.YtmlflmlgjjjmfaaDoor
open Go.ChangeShapes Go.WideShapes Go.ChangeAt Go.RowKit Go.Deep

def laid4 : List (String × DataW Unit) := Rows.descrTellsRow.laid
theorem Tryd.cells9 : Tryd.prog.cellsOf 9 = 1 := by kernel_rfl
theorem Tryd.global1 : (Tryd.prog.globals[1]?).map (·.type) = some 105 := by kernel_rfl
theorem Tryd.global0 : (Tryd.prog.globals[0]?).map (·.type) = some 61 := by kernel_rfl
theorem Tryd.cells98 : Tryd.prog.cellsOf 98 = 1 := by kernel_rfl
theorem Tryd.cells105 : Tryd.prog.cellsOf 105 = 20 := by kernel_rfl
theorem Tryd.cells61 : Tryd.prog.cellsOf 61 = 5 := by kernel_rfl
theorem Tryd.cells26 : Tryd.prog.cellsOf 26 = 4 := by kernel_rfl
theorem Tryd.cells23 : Tryd.prog.cellsOf 23 = 3 := by kernel_rfl
theorem Tryd.cells24 : Tryd.prog.cellsOf 24 = 1 := by kernel_rfl
theorem Tryd.cells42 : Tryd.prog.cellsOf 42 = 4 := by kernel_rfl
theorem Tryd.cells3 : Tryd.prog.cellsOf 3 = 1 := by kernel_rfl

/-- An array of texts that reads as such holds these texts, cell for cell. -/
theorem cells_of_texts {H : Type} {enc : TypeId × Value → H} {P : Program} {w : World} {base : Nat} {sp : Nat → Bool} {held : Bool} {fuel : Nat} {t e : TypeId} {n : Nat} {cs : List Value} {zs : List (List UInt8)} {p : List MemPlace}
    (ht : P.underlying t = some (.array n e)) (he : P.underlying e = some .string) (hce : P.cellsOf e = 1) (hct : P.cellsOf t = n)
    (h : DataW.trod enc P w base sp held fuel t cs = some (.agg (zs.map fun z => .lit (.string z)), p)) : cs = zs.map fun z => Value.string (ba z) := by
  cases fuel with
  | zero => simp [DataW.trod] at h
  | succ fuel =>
    simp only [DataW.trod, ht, hce, hct, Nat.mul_one] at h
    split at h
    · rename_i hl
      obtain ⟨xs, hm, hx⟩ := Option.map_eq_some_iff.1 h
      have hxs : xs.map (·.1) = zs.map fun z => (DataW.lit (.string z) : DataW H) := by
        have := congrArg Prod.fst hx
        simpa using this
      have hxl : xs.length = n := by simpa using Lib.mapM_length hm
      have hzl : zs.length = n := by
        have := congrArg List.length hxs
        simp at this
        omega
      apply List.ext_getElem?
      intro i
      by_cases hi : i < n
      · obtain ⟨b, hb, hf⟩ := Lib.mapM_at hm i i (by simp [hi])
        obtain ⟨s, hc, rfl, _⟩ := DataW.trod_string he hf
        have h1 : cs[i]? = some (.string s) := by
          have := congrArg (·[0]?) hc
          simpa [List.getElem?_take, List.getElem?_drop] using this
        have h2 : (xs.map (·.1))[i]? = some (DataW.lit (.string s.data.toList) : DataW H) := by simp [hb]
        rw [hxs] at h2
        simp only [List.getElem?_map, Option.map_eq_some_iff, DataW.lit.injEq, Lit.string.injEq] at h2
        obtain ⟨z', hz', hz2⟩ := h2
        have : ba z' = s := by rw [hz2]; exact ba_bl s
        simp [h1, hz', this]
      · rw [List.getElem?_eq_none (by omega), List.getElem?_eq_none (by simp; omega)]
    · cases h

theorem laid_of {W : World} (h : laidMetH Tryd.prog laid4 W) : Laid W := by
  rw [MakeChecks.laidMetH_plain _ _ _ (by kernel_rfl)] at h
  have h1 := laidMet.tail h
  have h2 := laidMet.tail h1
  have h4 := laidMet.tail h2
  constructor
  · have h3 : laidMet Tryd.prog ((powName, Lib.tabData .u64 Lib.pow10Tab) :: [laid4.getD 3 ("", .nil)]) W := h2
    exact Lib.tabIs_of_head pow_global Tryd.global1 Tryd.underlying105 Tryd.underlying98 Tryd.cells98 Tryd.cells105 h3
  · have h5 : laidMet Tryd.prog ((kindsName, .agg ([[], [99, 111, 110, 118], [115, 113, 117, 97, 114, 101], [112, 111, 111, 108], [100, 101, 110, 115, 101]].map fun z => .lit (.string z))) :: []) W := h4
    obtain ⟨ps, ⟨g', t', cs, fuel, p, q, hg', ht', hvar, hd, _, _⟩, _⟩ := h5
    obtain rfl := Option.some.inj (kinds_global.symm.trans hg')
    obtain rfl := Option.some.inj (Tryd.global0.symm.trans ht')
    unfold Kd
    have e := cells_of_texts Tryd.underlying61 Tryd.underlying9 Tryd.cells9 Tryd.cells61 hd
    rw [hvar, ← Array.toArray_toList (xs := cs), e]
    rfl

theorem door_met (os : Os) (args : Array Value) : laidMetH Tryd.prog laid4 ((World.doorLaid Tryd.prog 29 os).forCall (fun _ _ => 0) ⟨#[], args, []⟩).memory :=
  laidMetH_of_parts3 (fuel := 8) (laidMet_of_run' 8 (by kernel_rfl) (by kernel_rfl)) (by kernel_rfl) (by kernel_rfl)

theorem byte_of_wf {n : Int} (h : (Lit.int .u8 n).wf = true) : ∃ c : UInt8, n = (c.toNat : Int) := by
  have h2 := bounds_u8 h
  refine ⟨UInt8.ofNat n.toNat, ?_⟩
  rw [UInt8.toNat_ofNat']; omega

theorem two {α : Type} {l : List α} (h : l.length = 2) : ∃ a b, l = [a, b] := by
  match l, h with
  | [a, b], _ => exact ⟨a, b, rfl⟩
theorem three {α : Type} {l : List α} (h : l.length = 3) : ∃ a b c, l = [a, b, c] := by
  match l, h with
  | [a, b, c], _ => exact ⟨a, b, c, rfl⟩
theorem four {α : Type} {l : List α} (h : l.length = 4) : ∃ a b c d, l = [a, b, c, d] := by
  match l, h with
  | [a, b, c, d], _ => exact ⟨a, b, c, d, rfl⟩
theorem ints_open {H : Type} {enc : TypeId × Value → H} {W : World} {fuel : Nat} {v : Value} {y : DataW H × List MemPlace} (h : DataW.trod enc Tryd.prog W 0 (fun _ => true) true fuel 3 [v] = some y) : ∃ n, v = .int .i64 n := by
  obtain ⟨n, hc, _⟩ := DataW.trod_int Tryd.underlying3 h
  exact ⟨n, by simpa using hc⟩
set_option maxRecDepth 100000 in
theorem shape_open {H : Type} {enc : TypeId × Value → H} {W : World} {fuel : Nat} {a b c : Value} {y : DataW H × List MemPlace} (h : DataW.trod enc Tryd.prog W 0 (fun _ => true) true fuel 23 [a, b, c] = some y) :
    ∃ x y z, a = .int .i64 x ∧ b = .int .i64 y ∧ c = .int .i64 z := by
  obtain ⟨xs, n, _, _, _, hlen, hg⟩ := DataW.trod_struct Tryd.underlying23 h
  have g0 := hg 0 _ rfl
  have g1 := hg 1 _ rfl
  have g2 := hg 2 _ rfl
  obtain ⟨y0, y1, y2, rfl⟩ := three hlen
  simp [Tryd.cells3] at g0 g1 g2
  obtain ⟨x, rfl⟩ := ints_open g0
  obtain ⟨y, rfl⟩ := ints_open g1
  obtain ⟨z, rfl⟩ := ints_open g2
  exact ⟨x, y, z, rfl, rfl, rfl⟩
set_option maxRecDepth 100000 in
theorem lay_open {H : Type} {enc : TypeId × Value → H} {W : World} {fuel : Nat} {cs : List Value} {y : DataW H × List MemPlace} (h : DataW.trod enc Tryd.prog W 0 (fun _ => true) true fuel 42 cs = some y) :
    ∃ l : Ly, cs = [.int .i64 l.k, .int .i64 l.o, .int .i64 l.s, .int .i64 l.t] := by
  obtain ⟨xs, n, _, _, hcl, hlen, hg⟩ := DataW.trod_struct Tryd.underlying42 h
  rw [Tryd.cells42] at hcl
  have g0 := hg 0 _ rfl
  have g1 := hg 1 _ rfl
  have g2 := hg 2 _ rfl
  have g3 := hg 3 _ rfl
  obtain ⟨y0, y1, y2, y3, rfl⟩ := four hlen
  obtain ⟨a, b, c, d, rfl⟩ := four hcl
  simp [Tryd.cells3] at g0 g1 g2 g3
  obtain ⟨x, rfl⟩ := ints_open g0
  obtain ⟨y, rfl⟩ := ints_open g1
  obtain ⟨z, rfl⟩ := ints_open g2
  obtain ⟨u, rfl⟩ := ints_open g3
  exact ⟨⟨x, y, z, u⟩, rfl⟩
theorem lays_open {H : Type} {enc : TypeId × Value → H} {W : World} {fuel : Nat} {v : Value} {y : DataW H × List MemPlace} (h : DataW.trod enc Tryd.prog W 0 (fun _ => true) true fuel 24 [v] = some y) :
    ∃ (A : Option Addr) (n cap : Nat) (ls : List Ly), v = .slice A n cap ∧ n = ls.length ∧ Rl W A ls ∧ n ≤ cap ∧ cap ≤ maxLen := by
  rcases Deep.open_slice Tryd.underlying24 h with ⟨hcs, _⟩ | ⟨a, len, cap, m, n, D, Pl, hcs, _, hl, hmx, hm, _, hc⟩
  · simp at hcs
    exact ⟨none, 0, 0, [], hcs, rfl, Rl.nil _ _, Nat.le_refl _, Nat.zero_le _⟩
  · simp at hcs
    simp at hm
    rw [Tryd.cells42] at hc
    have key : ∀ i, i < len → ∃ l : Ly, W.cells? 0 (a.add (i * 4)) 4 = some [.int .i64 l.k, .int .i64 l.o, .int .i64 l.s, .int .i64 l.t] := fun i hi => by
      obtain ⟨cs', h1, h2⟩ := hc i (by omega)
      obtain ⟨l, rfl⟩ := lay_open h2
      exact ⟨l, h1⟩
    obtain ⟨L, hL⟩ : ∃ L : Nat → Ly, ∀ i, i < len → W.cells? 0 (a.add (i * 4)) 4 = some [.int .i64 (L i).k, .int .i64 (L i).o, .int .i64 (L i).s, .int .i64 (L i).t] :=
      ⟨fun i => if hi : i < len then Classical.choose (key i hi) else Ly.z, fun i hi => by simp only [dif_pos hi]; exact Classical.choose_spec (key i hi)⟩
    refine ⟨some a, len, cap, (List.range len).map L, hcs, by simp, fun h0 => ?_, hl, hmx⟩
    simp only [List.length_map, List.length_range] at h0
    obtain ⟨b, off, spot⟩ := a
    have hat : ∀ i, i < len → ∀ j, j < 4 → W.cell? (((⟨b, off, spot⟩ : Addr).add (i * 4)).add j) = [Value.int .i64 (L i).k, .int .i64 (L i).o, .int .i64 (L i).s, .int .i64 (L i).t][j]? := fun i hi j hj => by
      obtain ⟨_, _, hh⟩ := World.cells?_some (hL i hi)
      exact hh j hj
    have hspot : spot = none := by
      have := hat 0 h0 0 (by omega)
      simpa [Addr.add] using World.cell?_spot (this : _ = some _)
    subst hspot
    have hcell : ∀ i, i < len → ∀ j, j < 4 → W.cell? ⟨b, off + i * 4 + j, none⟩ = [Value.int .i64 (L i).k, .int .i64 (L i).o, .int .i64 (L i).s, .int .i64 (L i).t][j]? := fun i hi j hj => by
      rw [← hat i hi j hj, Go.WideShapes.add_plain, Go.WideShapes.add_plain]
    refine ⟨b, off, rfl, World.block_lt_of_cell? W _ (hcell 0 h0 0 (by omega)), fun j hj => ?_⟩
    simp only [List.length_map, List.length_range] at hj
    have e : ((List.range len).map L).getD j Ly.z = L j := by simp [List.getD_eq_getElem?_getD, hj]
    rw [e]
    exact ⟨hcell j hj 0 (by omega), hcell j hj 1 (by omega), hcell j hj 2 (by omega), hcell j hj 3 (by omega)⟩
set_option maxRecDepth 100000 in
theorem net_open {H : Type} {enc : TypeId × Value → H} {W : World} {base : Nat} {v : Value} {d : DataW H} {p : List MemPlace} (hv : Value.okWide Tryd.prog W .any base 26 v)
    (h : DataW.Trod enc Tryd.prog W 0 (fun _ => true) true 26 v d p) : ∃ (c h x : Int) (A : Option Addr) (n cap : Nat) (ls : List Ly), v = .agg #[.int .i64 c, .int .i64 h, .int .i64 x, .slice A n cap] ∧ n = ls.length ∧ Rl W A ls ∧ n ≤ cap ∧ cap ≤ maxLen := by
  obtain ⟨cs, rfl, hsz⟩ := okWide_struct Tryd.underlying26 hv
  obtain ⟨l⟩ := cs
  have hl4 : l.length = 4 := hsz.trans Tryd.cells26
  obtain ⟨v0, v1, v2, v3, rfl⟩ := four hl4
  obtain ⟨fuel, hf⟩ := h
  obtain ⟨xs, n, _, _, _, hlen, hg⟩ := DataW.trod_struct Tryd.underlying26 hf
  have g0 := hg 0 _ rfl
  have g1 := hg 1 _ rfl
  obtain ⟨y0, y1, rfl⟩ := two hlen
  simp [Value.cells, Tryd.cells23, Tryd.cells24] at g0 g1
  obtain ⟨c, h, x, rfl, rfl, rfl⟩ := shape_open g0
  obtain ⟨A, m, cap, ls, rfl, hm, hR, hl, hx⟩ := lays_open g1
  exact ⟨c, h, x, A, m, cap, ls, rfl, hm, hR, hl, hx⟩

end Go.Proofs.YtmlflmlgjjjmfaaDoor
