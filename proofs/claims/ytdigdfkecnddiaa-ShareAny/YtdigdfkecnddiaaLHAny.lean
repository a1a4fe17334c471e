/-
  ShareAny: each row is the second part of just one row, whatever the seed.
-/
import Derived.Test.YtdigdfkecnddiaaHHead
namespace Go.Proofs.Ytdigdfkecnddiaa
open Go.RowKit

set_option maxHeartbeats 4000000 in
set_option maxRecDepth 100000 in
theorem law_hany (s : UInt64) (X : Option Addr) (cX nx : Nat) (xs : List UInt64) (w : World) (hX : Rg ucells w X xs) (lX : nx = xs.length) :
    Calls Try.prog 8 #[.int .u64 (uz s), .slice X nx cX] w fun e w' => e = .returned (.bool true) ∧ Below w.heap.size w w' := by
  have RX := Lib.hid hX; have LX := Lib.hid lX
  clear hX lX
  by_cases hg : 4096 < nx
  · have d1 : decide (4096 < (nx : Int)) = true := decide_eq_true (by omega)
    clear hg
    go_enter Try.func8, Try.ntmps8
    go_wp2_with fail
    refine (head10_any _).mono ?_
    rintro e w1 ⟨rfl, hb⟩
    have B1 := Lib.hid hb
    replace RX := Lib.hid (RX.out.below hb)
    clear hb
    go_wp2_with fail
    go_ret
    exact ⟨rfl, B1.out⟩
  have d1 : decide (4096 < (nx : Int)) = false := decide_eq_false (by omega)
  have bx : nx ≤ 4096 := by omega
  have H4 : Hid (xs.length ≤ 4096) := by show _ ≤ _; have := LX.out; omega
  have C1 : Hid (∀ w, Calls Try.prog 34 #[.int .u64 (uz s), .int .u64 0, .int .i64 (nx : Int)] w (RowTo ucells (rowN s 0 (xs.length : Int)) w)) := fun w => by rw [← LX.out]; exact rrow9 s 0 (nx : Int) w
  clear hg
  go_enter Try.func8, Try.ntmps8
  go_wp2_with fail
  refine (head10_any _).mono ?_
  rintro e w1 ⟨rfl, hb⟩
  have B1 := Lib.hid hb
  replace RX := Lib.hid (RX.out.below hb)
  clear hb
  go_wp2_with fail
  refine (C1.out _).mono ?_
  rintro e w2 ⟨Aa, ka, na, rfl, h1, h2, hb, h4, h5⟩
  have Ma := Lib.hid h1; have Ra := Lib.hid h2
  clear h1 h2 h4 h5
  have B2 := Lib.hid (chain B1.out hb)
  replace RX := Lib.hid (RX.out.below hb)
  clear hb B1
  go_wp2_with fail
  refine (nadd Aa X ka cX na nx (rowN s 0 (xs.length : Int)) (xs) _ Ra.out RX.out Ma.out LX.out (by have q : na = (splA s xs).length := Ma.out; rw [splA_len H4.out] at q; have := H4.out; omega)).mono ?_
  rintro e w3 ⟨Ab, kb, nb, rfl, h1, h2, hb, h4, h5, h6⟩
  have Mb := Lib.hid h1; have Rb := Lib.hid h2
  clear h1 h2 h4 h5 h6
  have B3 := Lib.hid (chain B2.out hb)
  replace RX := Lib.hid (RX.out.below hb)
  replace Ra := Lib.hid (Ra.out.below hb)
  clear hb B2
  go_wp2_with fail
  refine (split10 s Ab kb nb (addR (rowN s 0 (xs.length : Int)) xs) _ Rb.out Mb.out (by have q := Mb.out; rw [any_len H4.out] at q; have := H4.out; omega)).mono ?_
  rintro e w4 ⟨Ac, kc, nc, Ad, kd, nd, rfl, h1, h2, h3, h4, hb, h5, h6, h7, h8⟩
  have Mc := Lib.hid h1; have Rc := Lib.hid h2; have Md := Lib.hid h3; have Rd := Lib.hid h4
  clear h1 h2 h3 h4 h5 h6 h7 h8
  have B4 := Lib.hid (chain B3.out hb)
  replace RX := Lib.hid (RX.out.below hb)
  replace Ra := Lib.hid (Ra.out.below hb)
  replace Rb := Lib.hid (Rb.out.below hb)
  clear hb B3
  go_wp2_with fail
  refine (ssame Ad X kd cX nd nx (splB s (addR (rowN s 0 (xs.length : Int)) xs)) (xs) _ Rd.out RX.out Md.out LX.out (by have q := Md.out; rw [any_b H4.out] at q; have := H4.out; omega) (any_b H4.out)).mono ?_
  rintro e w5 ⟨rfl, hb⟩
  have B5 := Lib.hid (chain B4.out hb)
  replace RX := Lib.hid (RX.out.below hb)
  replace Ra := Lib.hid (Ra.out.below hb)
  replace Rb := Lib.hid (Rb.out.below hb)
  replace Rc := Lib.hid (Rc.out.below hb)
  replace Rd := Lib.hid (Rd.out.below hb)
  clear hb B4
  go_wp2_with fail
  go_ret
  exact ⟨rfl, B5.out⟩

end Go.Proofs.Ytdigdfkecnddiaa
