/-
  What Number and Get of package text answer.
-/
import Derived.Test.YtmlflmlgjjjmfaaDoorText
namespace Go.Proofs.YtmlflmlgjjjmfaaDoor
open Go.RowKit

theorem below_grow (w : World) (os : Array Obj) : Below w.heap.size w (Sort.grow w os) :=
  ⟨rfl, rfl, rfl, by simp [Sort.grow], fun k hk => by simp [Sort.grow, Array.getElem?_append, hk]⟩

set_option maxHeartbeats 400000 in
theorem number_any (n : Int) (w : World) (ht : Tab w) :
    Calls Tryd.prog 40 #[.int .i64 n] w fun e w' => e = .returned (.string (ba (numL n))) ∧ Below w.heap.size w w' := by
  have HT := Lib.hid ht; clear ht
  by_cases h0 : 0 ≤ n
  · have d0 : decide (n < 0) = false := by simpa using h0
    by_cases h1 : n ≤ 999999
    · have d1 : decide (999999 < n) = false := by simpa using h1
      have HN : Hid (numL n = Lib.itoa n) := by
        show _ = _
        rw [numL_in h0 h1]; unfold Lib.itoa; rw [if_neg (by omega)]; rfl
      go_enter Tryd.func40, Tryd.ntmps40
      go_wp2_with fail
      refine (Any.strconv_Itoa Tryd.laysM171 n (by omega) (by omega) w HT.out).mono ?_
      rintro e w1 ⟨rfl, k, os, hw1⟩
      have HB : Hid (Below w.heap.size w w1) := by
        rw [hw1]; exact (Joins.below_draws _ w k).trans (below_grow (w.drewN k) os)
      clear hw1
      go_wp2_with fail
      go_ret
      exact ⟨by rw [HN.out]; rfl, HB.out⟩
    · have d1 : decide (999999 < n) = true := by simpa using h1
      have HN := Lib.hid (numL_out (n := n) (by omega))
      go_enter Tryd.func40, Tryd.ntmps40
      go_wp2_with fail
      go_ret
      exact ⟨by rw [HN.out]; rfl, Below.refl _ _⟩
  · have d0 : decide (n < 0) = true := by simpa using h0
    have HN := Lib.hid (numL_out (n := n) (by omega))
    go_enter Tryd.func40, Tryd.ntmps40
    go_wp2_with fail
    go_ret
    exact ⟨by rw [HN.out]; rfl, Below.refl _ _⟩

theorem ret_two {a b : Int} {x y : Bool} (h : a = b) (k : x = y) : Ending.returned (.tuple #[.int .i64 a, .bool x]) = .returned (.tuple #[.int .i64 b, .bool y]) := by rw [h, k]
theorem text_ne {a b : ByteArray} (h : bl a ≠ bl b) : (a.toList == b.toList) = false := by
  rw [same_text]
  cases hq : (bl a == bl b)
  · rfl
  · exact absurd (beq_iff_eq.1 hq) h
theorem text_eq {a b : ByteArray} (h : bl a = bl b) : (a.toList == b.toList) = true := by rw [same_text, h]; simp

def GetPost (s : ByteArray) (w : World) (e : Ending) (w' : World) : Prop := e = .returned (.tuple #[.int .i64 (getN (bl s)), .bool (getB (bl s))]) ∧ Below w.heap.size w w'

set_option maxHeartbeats 1000000 in
theorem get_yes (s : ByteArray) (w : World) (ht : Tab w) (hg : getB (bl s) = true) : Calls Tryd.prog 46 #[.string s] w (GetPost s w) := by
  have HT := Lib.hid ht; clear ht
  have HN := Lib.hid (getN_yes hg)
  have HG := Lib.hid hg
  have HD := Lib.hid (getB_digs hg)
  have HE := Lib.hid (num_get hg)
  have hlen := (getB_len hg).2.1
  rw [← size_bl] at hlen
  clear hg
  go_enter Tryd.func46, Tryd.ntmps46
  go_wp2_with fail
  go_loopw [4] (fun v wr => ∃ pos n : Nat, pos ≤ s.size ∧ wr = w.iter s pos ∧ v = .int .i64 n ∧ Hid (n = valL ((bl s).take pos))) (fun _ wr => s.size - wr.iterPos w.heap.size)
  case atStart => exact ⟨0, 0, Nat.zero_le _, rfl, rfl, rfl⟩
  case round =>
    obtain ⟨pos, n, hle, rfl, rfl, HV⟩ := hrel
    have hn : n ≤ 999999 := by
      have h1 := val_lt ((bl s).take pos) (fun b hb => HD.out b (List.mem_of_mem_take hb))
      rw [← HV.out] at h1
      have h2 : ((bl s).take pos).length ≤ 6 := by rw [List.length_take]; omega
      have h3 : 10 ^ ((bl s).take pos).length ≤ 10 ^ 6 := Nat.pow_le_pow_right (by omega) h2
      omega
    by_cases hp : pos < s.size
    · have hd := dig_nat (HD.out (s[pos]'hp) (List.mem_of_getElem? (bl_get s pos hp)))
      have hnx : ∀ ty, (Instr.next (.pointer (some ⟨w.heap.size, 0, none⟩)) true ty).run Tryd.prog (w.iter s pos) = _ := fun ty => run_next_ascii w s pos ty hp (by omega)
      have HS : Hid (valL ((bl s).take (pos + 1)) = 10 * n + ((s[pos]'hp).toNat - 48)) := by
        show _ = _
        rw [take_bl s pos hp, val_snoc, HV.out]
      obtain ⟨r, hr⟩ : ∃ r : Nat, r = (s[pos]'hp).toNat := ⟨_, rfl⟩
      rw [← hr] at hd hnx HS
      clear hr HV
      go_wp2_with fail
      go_roundw
      case rel => exact ⟨pos + 1, 10 * n + (r - 48), hp, rfl, congrArg (Value.int .i64) (by omega), HS.out.symm⟩
      case measure => simp; omega
    · obtain rfl : pos = s.size := by omega
      have hnx : ∀ ty, (Instr.next (.pointer (some ⟨w.heap.size, 0, none⟩)) true ty).run Tryd.prog (w.iter s s.size) = _ := fun ty => run_next_end w s s.size ty hp
      have hv := HV.out
      rw [size_bl, List.take_length] at hv
      have HV2 : Hid ((n : Int) = getN (bl s)) := by show _ = _; rw [HN.out, hv]
      clear hv HV
      go_wp2_with fail
      refine (number_any n _ (HT.out.below (below_iter w s s.size))).mono ?_
      rintro e w1 ⟨rfl, hb1⟩
      have HB := Lib.hid ((below_iter w s s.size).trans (hb1.mono (by simp [World.iter])))
      have hq : ((ba (numL n)).toList == s.toList) = true := text_eq (by rw [bl_ba, HV2.out, HE.out])
      clear hb1
      go_wp2_with fail
      go_ret2
      exact ⟨ret_two HV2.out HG.out.symm, HB.out⟩

set_option maxHeartbeats 1000000 in
theorem get_no (s : ByteArray) (w : World) (ht : Tab w) (hg : getB (bl s) = false) : Calls Tryd.prog 46 #[.string s] w (GetPost s w) := by
  have HT := Lib.hid ht; clear ht
  have HN := Lib.hid (getN_no hg)
  have HG := Lib.hid hg
  clear hg
  go_enter Tryd.func46, Tryd.ntmps46
  go_wp2_with fail
  go_loopw [4] (fun v wr => ∃ (pos : Nat) (n : Int), pos ≤ s.size ∧ wr = w.iter s pos ∧ v = .int .i64 n ∧ Hid (pos = 0 → n = 0)) (fun _ wr => s.size - wr.iterPos w.heap.size)
  case atStart => exact ⟨0, 0, Nat.zero_le _, rfl, rfl, fun _ => rfl⟩
  case round =>
    obtain ⟨pos, n, hle, rfl, rfl, HZ⟩ := hrel
    by_cases hp : pos < s.size
    · obtain ⟨h1, h2⟩ : 1 ≤ (Utf8.decode s pos).2 ∧ pos + (Utf8.decode s pos).2 ≤ s.size := by
        by_cases ha : (s[pos]'hp).toNat < 128
        · rw [decode_ascii s pos hp ha]; exact ⟨Nat.le_refl _, hp⟩
        · have := rune_high s pos hp (by omega)
          exact ⟨this.2.1, this.2.2.1⟩
      obtain ⟨d, hd⟩ : ∃ d : Nat, d = (Utf8.decode s pos).2 := ⟨_, rfl⟩
      obtain ⟨r, hr⟩ : ∃ r : Int, r = ((Utf8.decode s pos).1 : Int) := ⟨_, rfl⟩
      have hnx : ∀ ty, (Instr.next (.pointer (some ⟨w.heap.size, 0, none⟩)) true ty).run Tryd.prog (w.iter s pos) = .ok (.tuple #[.bool true, .int .i64 pos, .int .i32 r]) (w.iter s (pos + d)) := fun ty => by
        rw [hd, hr]; exact run_next_any w s pos ty hp
      rw [← hd] at h1 h2
      clear hd hr HZ
      go_wp2_with fail
      go_roundw
      case rel => exact ⟨pos + d, _, h2, rfl, rfl, fun h => absurd h (by omega)⟩
      case measure => simp; omega
    · obtain rfl : pos = s.size := by omega
      have hnx : ∀ ty, (Instr.next (.pointer (some ⟨w.heap.size, 0, none⟩)) true ty).run Tryd.prog (w.iter s s.size) = _ := fun ty => run_next_end w s s.size ty hp
      have HQ : Hid (numL n ≠ bl s) := by
        show numL n ≠ bl s
        by_cases h0 : bl s = []
        · have hz : n = 0 := HZ.out (by rw [size_bl, h0]; rfl)
          rw [h0, hz, numL_in (by omega) (by omega)]
          exact dec_ne _
        · exact num_not HG.out h0 n
      clear HZ
      go_wp2_with fail
      refine (number_any n _ (HT.out.below (below_iter w s s.size))).mono ?_
      rintro e w1 ⟨rfl, hb1⟩
      have HB := Lib.hid ((below_iter w s s.size).trans (hb1.mono (by simp [World.iter])))
      have hq : ((ba (numL n)).toList == s.toList) = false := text_ne (by rw [bl_ba]; exact HQ.out)
      clear hb1
      go_wp2_with fail
      go_ret2
      exact ⟨ret_two HN.out.symm HG.out.symm, HB.out⟩

theorem get_any (s : ByteArray) (w : World) (ht : Tab w) : Calls Tryd.prog 46 #[.string s] w (GetPost s w) := by
  cases hg : getB (bl s)
  · exact get_no s w ht hg
  · exact get_yes s w ht hg

end Go.Proofs.YtmlflmlgjjjmfaaDoor
