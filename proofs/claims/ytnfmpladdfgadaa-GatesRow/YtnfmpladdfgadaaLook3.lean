/-
  What look answers of any network.
-/
import Derived.Test.YtnfmpladdfgadaaLook2
namespace Go.Proofs.Ytnfmpladdfgadaa
open Go.RowKit

theorem look_any (c h x : Int) (A : Option Addr) (cA n : Nat) (ls : List Ly) (w : World) (hx : Rl w A ls) (ln : n = ls.length) (hn : n ≤ 1000) :
    Calls Try.prog 54 #[.agg #[.int .i64 c, .int .i64 h, .int .i64 x, .slice A n cA]] w (LookTo ⟨c, h, x, ls⟩ w) := by
  cases hf : formB ⟨c, h, x, ls⟩
  · exact look_form c h x A cA n ls w hx ln hn hf
  · cases hr : rightB c h x
    · exact look_arg c h x A cA n ls w hx ln hn hf hr
    · exact look_rest c h x A cA n ls w hx ln hn hf hr

end Go.Proofs.Ytnfmpladdfgadaa
