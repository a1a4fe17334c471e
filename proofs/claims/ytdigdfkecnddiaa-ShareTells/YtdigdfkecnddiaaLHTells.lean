/-
  ShareTells: both parts of any row, what any two rows join to, and any party's part of what both know, are the document's.
-/
import Derived.Test.YtdigdfkecnddiaaHHead
namespace Go.Proofs.Ytdigdfkecnddiaa
open Go.RowKit

set_option maxHeartbeats 4000000 in
set_option maxRecDepth 100000 in
theorem law_htells (s : UInt64) (X Y : Option Addr) (cX nx cY ny : Nat) (xs ys : List UInt64) (a : Int) (w : World) (hX : Rg ucells w X xs) (lX : nx = xs.length) (hY : Rg ucells w Y ys) (lY : ny = ys.length) :
    Calls Try.prog 5 #[.int .u64 (uz s), .slice X nx cX, .slice Y ny cY, .int .i64 a] w fun e w' => e = .returned (.bool true) ∧ Below w.heap.size w w' := by
  have RX := Lib.hid hX; have LX := Lib.hid lX; have RY := Lib.hid hY; have LY := Lib.hid lY
  clear hX lX hY lY
  by_cases hg : 4200 < nx ∨ 4200 < ny
  · have hgr : (decide (4200 < (nx : Int)) || decide (4200 < (ny : Int))) = true := by simp; omega
    clear hg
    go_enter Try.func5, Try.ntmps5
    go_wp2_with fail
    refine (head10_any _).mono ?_
    rintro e w1 ⟨rfl, hb⟩
    have B1 := Lib.hid hb
    replace RX := Lib.hid (RX.out.below hb)
    replace RY := Lib.hid (RY.out.below hb)
    clear hb
    go_wp2_with fail
    refine (great10 X Y cX cY nx ny true hgr _).mono ?_
    rintro e w2 ⟨rfl, hb⟩
    have B2 := Lib.hid (chain B1.out hb)
    replace RX := Lib.hid (RX.out.below hb)
    replace RY := Lib.hid (RY.out.below hb)
    clear hb B1
    go_wp2_with fail
    go_ret
    exact ⟨rfl, B2.out⟩
  have hgr : (decide (4200 < (nx : Int)) || decide (4200 < (ny : Int))) = false := by simp; omega
  have bx : nx ≤ 4200 := by omega
  have bY : ny ≤ 4200 := by omega
  clear hg
  go_enter Try.func5, Try.ntmps5
  go_wp2_with fail
  refine (head10_any _).mono ?_
  rintro e w1 ⟨rfl, hb⟩
  have B1 := Lib.hid hb
  replace RX := Lib.hid (RX.out.below hb)
  replace RY := Lib.hid (RY.out.below hb)
  clear hb
  go_wp2_with fail
  refine (great10 X Y cX cY nx ny false hgr _).mono ?_
  rintro e w2 ⟨rfl, hb⟩
  have B2 := Lib.hid (chain B1.out hb)
  replace RX := Lib.hid (RX.out.below hb)
  replace RY := Lib.hid (RY.out.below hb)
  clear hb B1
  go_wp2_with fail
  refine (split10 s X cX nx (xs) _ RX.out LX.out (by omega)).mono ?_
  rintro e w3 ⟨Aa, ka, na, Ab, kb, nb, rfl, h1, h2, h3, h4, hb, h5, h6, h7, h8⟩
  have Ma := Lib.hid h1; have Ra := Lib.hid h2; have Mb := Lib.hid h3; have Rb := Lib.hid h4
  clear h1 h2 h3 h4 h5 h6 h7 h8
  have B3 := Lib.hid (chain B2.out hb)
  replace RX := Lib.hid (RX.out.below hb)
  replace RY := Lib.hid (RY.out.below hb)
  clear hb B2
  go_wp2_with fail
  refine (rsplit10 s X cX nx (xs) _ RX.out LX.out (by omega)).mono ?_
  rintro e w4 ⟨Ac, kc, nc, Ad, kd, nd, rfl, h1, h2, h3, h4, hb, h5, h6, h7, h8⟩
  have Mc := Lib.hid h1; have Rc := Lib.hid h2; have Md := Lib.hid h3; have Rd := Lib.hid h4
  clear h1 h2 h3 h4 h5 h6 h7 h8
  have B4 := Lib.hid (chain B3.out hb)
  replace RX := Lib.hid (RX.out.below hb)
  replace RY := Lib.hid (RY.out.below hb)
  replace Ra := Lib.hid (Ra.out.below hb)
  replace Rb := Lib.hid (Rb.out.below hb)
  clear hb B3
  go_wp2_with fail
  refine (ssame Aa Ac ka kc na nc (splA s xs) (splA s xs) _ Ra.out Rc.out Ma.out Mc.out (by have := Ma.out; have := splA_le s xs; omega) (rfl)).mono ?_
  rintro e w5 ⟨rfl, hb⟩
  have B5 := Lib.hid (chain B4.out hb)
  replace RX := Lib.hid (RX.out.below hb)
  replace RY := Lib.hid (RY.out.below hb)
  replace Ra := Lib.hid (Ra.out.below hb)
  replace Rb := Lib.hid (Rb.out.below hb)
  replace Rc := Lib.hid (Rc.out.below hb)
  replace Rd := Lib.hid (Rd.out.below hb)
  clear hb B4
  go_wp2_with fail
  refine (ssame Ab Ad kb kd nb nd (splB s xs) (splB s xs) _ Rb.out Rd.out Mb.out Md.out (by have := Mb.out; have := splB_le s xs; omega) (rfl)).mono ?_
  rintro e w6 ⟨rfl, hb⟩
  have B6 := Lib.hid (chain B5.out hb)
  replace RX := Lib.hid (RX.out.below hb)
  replace RY := Lib.hid (RY.out.below hb)
  replace Ra := Lib.hid (Ra.out.below hb)
  replace Rb := Lib.hid (Rb.out.below hb)
  replace Rc := Lib.hid (Rc.out.below hb)
  replace Rd := Lib.hid (Rd.out.below hb)
  clear hb B5
  go_wp2_with fail
  refine (join10 X Y cX cY nx ny (xs) (ys) _ RX.out RY.out LX.out LY.out (by omega)).mono ?_
  rintro e w7 ⟨Ae, ke, ne, rfl, h1, h2, hb, h4, h5⟩
  have Me := Lib.hid h1; have Re := Lib.hid h2
  clear h1 h2 h4 h5
  have B7 := Lib.hid (chain B6.out hb)
  replace RX := Lib.hid (RX.out.below hb)
  replace RY := Lib.hid (RY.out.below hb)
  replace Ra := Lib.hid (Ra.out.below hb)
  replace Rb := Lib.hid (Rb.out.below hb)
  replace Rc := Lib.hid (Rc.out.below hb)
  replace Rd := Lib.hid (Rd.out.below hb)
  clear hb B6
  go_wp2_with fail
  refine (rjoin10 X Y cX cY nx ny (xs) (ys) _ RX.out RY.out LX.out LY.out (by omega)).mono ?_
  rintro e w8 ⟨Af, kf, nf, rfl, h1, h2, hb, h4, h5⟩
  have Mf := Lib.hid h1; have Rf := Lib.hid h2
  clear h1 h2 h4 h5
  have B8 := Lib.hid (chain B7.out hb)
  replace RX := Lib.hid (RX.out.below hb)
  replace RY := Lib.hid (RY.out.below hb)
  replace Ra := Lib.hid (Ra.out.below hb)
  replace Rb := Lib.hid (Rb.out.below hb)
  replace Rc := Lib.hid (Rc.out.below hb)
  replace Rd := Lib.hid (Rd.out.below hb)
  replace Re := Lib.hid (Re.out.below hb)
  clear hb B7
  go_wp2_with fail
  refine (ssame Ae Af ke kf ne nf (addR xs ys) (addR xs ys) _ Re.out Rf.out Me.out Mf.out (by have q := Me.out; have := LX.out; simp only [addR, List.length_zipWith] at q; omega) (rfl)).mono ?_
  rintro e w9 ⟨rfl, hb⟩
  have B9 := Lib.hid (chain B8.out hb)
  replace RX := Lib.hid (RX.out.below hb)
  replace RY := Lib.hid (RY.out.below hb)
  replace Ra := Lib.hid (Ra.out.below hb)
  replace Rb := Lib.hid (Rb.out.below hb)
  replace Rc := Lib.hid (Rc.out.below hb)
  replace Rd := Lib.hid (Rd.out.below hb)
  replace Re := Lib.hid (Re.out.below hb)
  replace Rf := Lib.hid (Rf.out.below hb)
  clear hb B8
  go_wp2_with fail
  refine (part10 a X cX nx (xs) _ RX.out LX.out (by omega)).mono ?_
  rintro e w10 ⟨Ag, kg, ng, rfl, h1, h2, hb, h4, h5⟩
  have Mg := Lib.hid h1; have Rg := Lib.hid h2
  clear h1 h2 h4 h5
  have B10 := Lib.hid (chain B9.out hb)
  replace RX := Lib.hid (RX.out.below hb)
  replace RY := Lib.hid (RY.out.below hb)
  replace Ra := Lib.hid (Ra.out.below hb)
  replace Rb := Lib.hid (Rb.out.below hb)
  replace Rc := Lib.hid (Rc.out.below hb)
  replace Rd := Lib.hid (Rd.out.below hb)
  replace Re := Lib.hid (Re.out.below hb)
  replace Rf := Lib.hid (Rf.out.below hb)
  clear hb B9
  go_wp2_with fail
  refine (rpart10 a X cX nx (xs) _ RX.out LX.out (by omega)).mono ?_
  rintro e w11 ⟨Ah, kh, nh, rfl, h1, h2, hb, h4, h5⟩
  have Mh := Lib.hid h1; have Rh := Lib.hid h2
  clear h1 h2 h4 h5
  have B11 := Lib.hid (chain B10.out hb)
  replace RX := Lib.hid (RX.out.below hb)
  replace RY := Lib.hid (RY.out.below hb)
  replace Ra := Lib.hid (Ra.out.below hb)
  replace Rb := Lib.hid (Rb.out.below hb)
  replace Rc := Lib.hid (Rc.out.below hb)
  replace Rd := Lib.hid (Rd.out.below hb)
  replace Re := Lib.hid (Re.out.below hb)
  replace Rf := Lib.hid (Rf.out.below hb)
  replace Rg := Lib.hid (Rg.out.below hb)
  clear hb B10
  go_wp2_with fail
  refine (ssame Ag Ah kg kh ng nh (partN a xs) (partN a xs) _ Rg.out Rh.out Mg.out Mh.out (by have q := Mg.out; have := LX.out; rw [part_len] at q; omega) (rfl)).mono ?_
  rintro e w12 ⟨rfl, hb⟩
  have B12 := Lib.hid (chain B11.out hb)
  replace RX := Lib.hid (RX.out.below hb)
  replace RY := Lib.hid (RY.out.below hb)
  replace Ra := Lib.hid (Ra.out.below hb)
  replace Rb := Lib.hid (Rb.out.below hb)
  replace Rc := Lib.hid (Rc.out.below hb)
  replace Rd := Lib.hid (Rd.out.below hb)
  replace Re := Lib.hid (Re.out.below hb)
  replace Rf := Lib.hid (Rf.out.below hb)
  replace Rg := Lib.hid (Rg.out.below hb)
  replace Rh := Lib.hid (Rh.out.below hb)
  clear hb B11
  go_wp2_with fail
  go_ret
  exact ⟨rfl, B12.out⟩

end Go.Proofs.Ytdigdfkecnddiaa
