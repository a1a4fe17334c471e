/-
  StreamApart: unlike ones of a seed are unlike; so are those of unlike seeds at one place.
-/
import Derived.Test.YtnbnfkgoneinfaaSHead
namespace Go.Proofs.Ytnbnfkgoneinfaa
open Go.RowKit

set_option maxHeartbeats 2000000 in
set_option maxRecDepth 100000 in
theorem law_sapart (s t i k : UInt64) (w : World) :
    Calls Try.prog 6 #[.int .u64 (uz s), .int .u64 (uz t), .int .u64 (uz i), .int .u64 (uz k)] w fun e w' => e = .returned (.bool true) ∧ Below w.heap.size w w' := by
  obtain ⟨a, ha⟩ : ∃ a, a = numU s i := ⟨_, rfl⟩
  obtain ⟨b, hb0⟩ : ∃ b, b = numU s k := ⟨_, rfl⟩
  obtain ⟨d, hd⟩ : ∃ d, d = numU t i := ⟨_, rfl⟩
  have C1 : Hid (∀ w, Calls Try.prog 27 #[.int .u64 (uz s), .int .u64 (uz i)] w fun e w' => e = .returned (.int .u64 (uz a)) ∧ Below w.heap.size w w') := fun w => by rw [ha]; exact number9 s i w
  have C2 : Hid (∀ w, Calls Try.prog 27 #[.int .u64 (uz s), .int .u64 (uz k)] w fun e w' => e = .returned (.int .u64 (uz b)) ∧ Below w.heap.size w w') := fun w => by rw [hb0]; exact number9 s k w
  have C3 : Hid (∀ w, Calls Try.prog 27 #[.int .u64 (uz t), .int .u64 (uz i)] w fun e w' => e = .returned (.int .u64 (uz d)) ∧ Below w.heap.size w w') := fun w => by rw [hd]; exact number9 t i w
  obtain ⟨r, hr⟩ : ∃ r, r = (uz i == uz k) := ⟨_, rfl⟩
  obtain ⟨q, hq⟩ : ∃ q, q = (uz s == uz t) := ⟨_, rfl⟩
  have e1 : (uz a == uz b) = r := by
    rw [hr, uz_beq, uz_beq, ha, hb0, Bool.eq_iff_iff, beq_iff_eq, beq_iff_eq]
    exact ⟨num_inj, fun z => by rw [z]⟩
  have e2 : (uz a == uz d) = q := by
    rw [hq, uz_beq, uz_beq, ha, hd, Bool.eq_iff_iff, beq_iff_eq, beq_iff_eq]
    exact ⟨num_seed, fun z => by rw [z]⟩
  have e3 : (uz i == uz k) = r := hr.symm
  have e4 : (uz s == uz t) = q := hq.symm
  clear ha hb0 hd hr hq
  cases r <;> cases q
  all_goals
    go_enter Try.func6, Try.ntmps6
    go_wp2_with fail
    refine (head9_any _).mono ?_
    rintro e w1 ⟨rfl, hb⟩
    have B1 := Lib.hid hb
    clear hb
    go_wp2_with fail
    refine (C1.out _).mono ?_
    rintro e w2 ⟨rfl, hb⟩
    have B2 := Lib.hid (chain B1.out hb)
    clear hb
    go_wp2_with fail
    refine (C2.out _).mono ?_
    rintro e w3 ⟨rfl, hb⟩
    have B3 := Lib.hid (chain B2.out hb)
    clear hb
    go_wp2_with fail
    refine (C1.out _).mono ?_
    rintro e w4 ⟨rfl, hb⟩
    have B4 := Lib.hid (chain B3.out hb)
    clear hb
    go_wp2_with fail
    refine (C3.out _).mono ?_
    rintro e w5 ⟨rfl, hb⟩
    have B5 := Lib.hid (chain B4.out hb)
    clear hb
    go_wp2_with fail
    go_ret
    exact ⟨rfl, B5.out⟩

end Go.Proofs.Ytnbnfkgoneinfaa
