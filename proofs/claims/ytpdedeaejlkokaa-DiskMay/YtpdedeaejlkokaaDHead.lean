/-
  What the laws of layer 15 stand on: rows of one byte.
-/
import Derived.Test.YtpdedeaejlkokaaDPub
namespace Go.Proofs.Ytpdedeaejlkokaa
open Go.RowKit

/-- What is done with a disk leaves what it does not own. -/
theorem DI.other {B : Nat} {O : Nat → Prop} {d : Dk} {g : Nat} {w : World} (H : DI B O d g w) {b j : Nat} (hb : ¬ O b) (v : Value) : DI B O d g (w.setCell ⟨b, j, none⟩ v) :=
  H.stay (by rw [World.size_setCell]; exact Nat.le_refl _) fun k q => Below.heap_setCell _ _ _ _ fun e => hb (by have e : k = b := e; rw [← e]; exact q)
theorem new15_no (n : Int) (h : ¬ (0 ≤ n ∧ n ≤ 4096)) (w : World) : Calls Try.prog 12 #[.int .i64 n] w fun e w' => e = .returned (.pointer none) ∧ Below w.heap.size w w' := by
  refine (new15 n w).mono ?_
  rintro e w' (⟨_, h1, h2⟩ | ⟨m, g, q, h3, _⟩)
  · exact ⟨h1, h2⟩
  · exact absurd ⟨by omega, by omega⟩ h
theorem new15_yes (m : Nat) (h : m ≤ 4096) (w : World) : Calls Try.prog 12 #[.int .i64 (m : Int)] w fun e w' => ∃ g O, e = .returned (.pointer (some ⟨g, 0, none⟩)) ∧ DI w.heap.size O (dkNew m) g w' ∧ Below w.heap.size w w' := by
  refine (new15 (m : Int) w).mono ?_
  rintro e w' (⟨q, _⟩ | ⟨k, g, q, h3, h4, h5, h6⟩)
  · exact absurd ⟨by omega, by omega⟩ q
  · obtain rfl : m = k := by omega
    exact ⟨g, _, h4, h5, h6⟩
def partB (c : UInt8) (k : Nat) : List Value := List.replicate k (.int .u8 (bz c)) ++ List.replicate (64 - k) (.int .u8 0)
theorem part_set (c : UInt8) {k : Nat} (h : k < 64) : (partB c k).set k (.int .u8 (bz c)) = partB c (k + 1) := by
  unfold partB
  rw [List.set_append_right _ _ (by simp), List.length_replicate, Nat.sub_self, show 64 - k = (64 - (k + 1)) + 1 by omega, List.replicate_succ, List.set_cons_zero, List.replicate_succ', List.append_assoc]
  rfl
theorem part_full (c : UInt8) : partB c 64 = (fillB c).flatMap bcells := by
  unfold partB fillB
  rw [Nat.sub_self, List.replicate_zero, List.append_nil]
  generalize 64 = n
  induction n with
  | zero => rfl
  | succ n ih => rw [List.replicate_succ, List.replicate_succ, List.flatMap_cons, ← ih]; rfl

set_option maxHeartbeats 2000000 in
set_option maxRecDepth 100000 in
theorem fill15 (c : UInt8) (w : World) : Calls Try.prog 24 #[.int .u8 (bz c)] w (BOwn (fillB c) w) := by
  obtain ⟨i0, hi0, hz0, hz1, hz2⟩ := info_parts Try.infoB
  have hmk : ∀ w : World, (Instr.makeSlice 31 (.int .i64 64) (.int .i64 64)).run Try.prog w = .ok (.slice (some ⟨w.heap.size, 0, none⟩) 64 64) (w.alloc (.cells (madeCells #[.int .u8 0] 64) 5)) := fun w => by
    have := run_make (P := Try.prog) w 31 5 i0 _ Try.underlying31 hi0 hz0 .i64 .i64 64 64 (by omega) (Int.le_refl _) (by rw [hz2]; omega) (by omega)
    rw [hz1, Nat.mul_one] at this
    exact this
  have O0 : Hid ((w.alloc (.cells (madeCells #[.int .u8 0] 64) 5)).ownsRow w.heap.size 5 1 (.slice (some ⟨w.heap.size, 0, none⟩) 64 64) 64 (partB c 0)) := by
    have := World.ownsRow_lit (base := w.heap.size) (e := 5) (size := 1) w (madeCells #[.int .u8 0] 64) 64 (Nat.le_refl _) (by decide) (by rw [size_madeCells])
    rw [toList_madeCells_one] at this
    exact this
  have B0 := Lib.hid (chain_alloc (Below.refl _ w) (.cells (madeCells #[.int .u8 0] 64) 5))
  go_enter Try.func24, Try.ntmps24
  go_wp2_with fail
  obtain ⟨g, hg⟩ : ∃ g, g = w.heap.size := ⟨_, rfl⟩
  have HG0 := Lib.hid hg
  rw [← hg] at O0 ⊢
  generalize w.alloc (.cells (madeCells #[.int .u8 0] 64) 5) = w1 at O0 B0 ⊢
  clear hg hmk
  go_loopg [4] 64 (fun gh s4 wx => ∃ k : Nat, k ≤ 64 ∧ Hid (gh = 64 - k) ∧ s4 = .int .i64 (k : Int) ∧ Hid (wx.ownsRow g 5 1 (.slice (some ⟨g, 0, none⟩) 64 64) 64 (partB c k)) ∧ Hid (Below w.heap.size w wx))
  case atStart => exact ⟨0, by omega, by show _ = _; omega, rfl, O0, B0⟩
  case round =>
    obtain ⟨k, hk, HG, rfl, OK, BK⟩ := hrel
    by_cases k64 : k < 64
    · have ki : (k : Int) < 64 := by omega
      have k0 : (0 : Int) ≤ (k : Int) := by omega
      have dk : decide ((k : Int) < 64) = true := decide_eq_true ki
      have c0 := World.ownsRow.cellAt OK.out k (by omega)
      have f0 := World.ownsRow.frozenAt OK.out k
      obtain ⟨v, hv⟩ : ∃ v, (partB c k)[k]? = some v := ⟨_, List.getElem?_eq_getElem (by unfold partB; simp; omega)⟩
      rw [hv] at c0
      have ON := (World.ownsRow.stored OK.out k (.int .u8 (bz c))).1
      rw [part_set c k64] at ON
      have O2 := Lib.hid ON
      have B2 : Hid (Below w.heap.size w (wr.setCell ⟨g, k, none⟩ (.int .u8 (bz c)))) := BK.out.setCell (p := ⟨g, k, none⟩) (by show w.heap.size ≤ g; rw [HG0.out]; exact Nat.le_refl _) _
      clear hv ON
      go_wp2_with fail
      go_roundg (64 - (k + 1))
      case measure => have := HG.out; omega
      case rel => exact ⟨k + 1, by omega, rfl, by go_num, O2, B2⟩
    · obtain rfl : k = 64 := by omega
      have dk : decide (((64 : Nat) : Int) < 64) = false := by decide
      go_wp2_with fail
      go_ret
      refine ⟨_, rfl, ?_, BK.out⟩
      rw [fill_len, ← part_full, ← HG0.out]
      exact OK.out
theorem fill15n (c : UInt8) (w : World) : Calls Try.prog 24 #[.int .u8 (bz c)] w (RowNew bcells (fillB c) w) := (fill15 c w).mono fun _ _ h => h.new

end Go.Proofs.Ytpdedeaejlkokaa
