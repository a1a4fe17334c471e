/-
  ShareBack: what is split is joined again, in either order; both parts are as long.
-/
import Derived.Test.YtdigdfkecnddiaaHHead
namespace Go.Proofs.Ytdigdfkecnddiaa
open Go.RowKit

set_option maxHeartbeats 4000000 in
set_option maxRecDepth 100000 in
theorem law_hback (s : UInt64) (X : Option Addr) (cX nx : Nat) (xs : List UInt64) (w : World) (hX : Rg ucells w X xs) (lX : nx = xs.length) :
    Calls Try.prog 6 #[.int .u64 (uz s), .slice X nx cX] w fun e w' => e = .returned (.bool true) ∧ Below w.heap.size w w' := by
  have RX := Lib.hid hX; have LX := Lib.hid lX
  clear hX lX
  by_cases hg : 4096 < nx
  · have d1 : decide (4096 < (nx : Int)) = true := decide_eq_true (by omega)
    clear hg
    go_enter Try.func6, Try.ntmps6
    go_wp2_with fail
    refine (head10_any _).mono ?_
    rintro e w1 ⟨rfl, hb⟩
    have B1 := Lib.hid hb
    replace RX := Lib.hid (RX.out.below hb)
    clear hb
    go_wp2_with fail
    go_ret
    exact ⟨rfl, B1.out⟩
  have d1 : decide (4096 < (nx : Int)) = false := decide_eq_false (by omega)
  have bx : nx ≤ 4096 := by omega
  have H4 : Hid (xs.length ≤ 4096) := by show _ ≤ _; have := LX.out; omega
  clear hg
  go_enter Try.func6, Try.ntmps6
  go_wp2_with fail
  refine (head10_any _).mono ?_
  rintro e w1 ⟨rfl, hb⟩
  have B1 := Lib.hid hb
  replace RX := Lib.hid (RX.out.below hb)
  clear hb
  go_wp2_with fail
  refine (split10 s X cX nx (xs) _ RX.out LX.out (by omega)).mono ?_
  rintro e w2 ⟨Aa, ka, na, Ab, kb, nb, rfl, h1, h2, h3, h4, hb, h5, h6, h7, h8⟩
  have Ma := Lib.hid h1; have Ra := Lib.hid h2; have Mb := Lib.hid h3; have Rb := Lib.hid h4
  clear h1 h2 h3 h4 h5 h6 h7 h8
  have B2 := Lib.hid (chain B1.out hb)
  replace RX := Lib.hid (RX.out.below hb)
  clear hb B1
  obtain rfl : na = nx := by rw [Ma.out, splA_len H4.out, LX.out]
  obtain rfl : nb = na := by rw [Mb.out, splB_len H4.out, LX.out]
  go_wp2_with fail
  refine (join10 Aa Ab ka kb nb nb (splA s xs) (splB s xs) _ Ra.out Rb.out Ma.out Mb.out (by omega)).mono ?_
  rintro e w3 ⟨Ae, ke, ne, rfl, h1, h2, hb, h4, h5⟩
  have Me := Lib.hid h1; have Re := Lib.hid h2
  clear h1 h2 h4 h5
  have B3 := Lib.hid (chain B2.out hb)
  replace RX := Lib.hid (RX.out.below hb)
  replace Ra := Lib.hid (Ra.out.below hb)
  replace Rb := Lib.hid (Rb.out.below hb)
  clear hb B2
  go_wp2_with fail
  refine (ssame Ae X ke cX ne nb (addR (splA s xs) (splB s xs)) (xs) _ Re.out RX.out Me.out LX.out (by have q := Me.out; rw [join_ab H4.out] at q; have := H4.out; omega) (join_ab H4.out)).mono ?_
  rintro e w4 ⟨rfl, hb⟩
  have B4 := Lib.hid (chain B3.out hb)
  replace RX := Lib.hid (RX.out.below hb)
  replace Ra := Lib.hid (Ra.out.below hb)
  replace Rb := Lib.hid (Rb.out.below hb)
  replace Re := Lib.hid (Re.out.below hb)
  clear hb B3
  go_wp2_with fail
  refine (join10 Ab Aa kb ka nb nb (splB s xs) (splA s xs) _ Rb.out Ra.out Mb.out Ma.out (by omega)).mono ?_
  rintro e w5 ⟨Af, kf, nf, rfl, h1, h2, hb, h4, h5⟩
  have Mf := Lib.hid h1; have Rf := Lib.hid h2
  clear h1 h2 h4 h5
  have B5 := Lib.hid (chain B4.out hb)
  replace RX := Lib.hid (RX.out.below hb)
  replace Ra := Lib.hid (Ra.out.below hb)
  replace Rb := Lib.hid (Rb.out.below hb)
  replace Re := Lib.hid (Re.out.below hb)
  clear hb B4
  go_wp2_with fail
  refine (ssame Af X kf cX nf nb (addR (splB s xs) (splA s xs)) (xs) _ Rf.out RX.out Mf.out LX.out (by have q := Mf.out; rw [join_ba H4.out] at q; have := H4.out; omega) (join_ba H4.out)).mono ?_
  rintro e w6 ⟨rfl, hb⟩
  have B6 := Lib.hid (chain B5.out hb)
  replace RX := Lib.hid (RX.out.below hb)
  replace Ra := Lib.hid (Ra.out.below hb)
  replace Rb := Lib.hid (Rb.out.below hb)
  replace Re := Lib.hid (Re.out.below hb)
  replace Rf := Lib.hid (Rf.out.below hb)
  clear hb B5
  go_wp2_with fail
  go_ret
  exact ⟨rfl, B6.out⟩

end Go.Proofs.Ytdigdfkecnddiaa
