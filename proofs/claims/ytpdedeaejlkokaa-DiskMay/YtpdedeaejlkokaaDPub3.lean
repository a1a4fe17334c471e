/-
  What package disk answers: has, bytes, Pending, Sectors, Fuse, New.
-/
import Derived.Test.YtpdedeaejlkokaaDPub2
namespace Go.Proofs.Ytpdedeaejlkokaa
open Go.RowKit

theorem has15 (B : Nat) (O : Nat → Prop) (g : Nat) (d : Dk) (vP : Value) (i : Int) (w : World) (H : DP B O d g vP w) :
    Calls Try.prog 30 #[.pointer (some ⟨g, 0, none⟩), .int .i64 i] w fun e w' => e = .returned (.bool (dkIn d i)) ∧ w = w' := by
  obtain ⟨A, A', c, c', mb, rfl, h1, r1, r2, tm, _⟩ := H.var
  obtain ⟨c0, c1, c2, c3, fr⟩ := pcell h1
  clear H h1 fr c1 c2 c3 r1 r2 tm
  obtain ⟨n, hn⟩ : ∃ n, n = d.l.length := ⟨_, rfl⟩
  have E : Hid (dkIn d i = decide (0 ≤ i ∧ i < (n : Int))) := by show _ = _; rw [hn]; rfl
  rw [← hn] at c0
  clear hn
  by_cases i0 : 0 ≤ i
  · have b1 : decide (i ≥ 0) = true := decide_eq_true i0
    by_cases i1 : i < (n : Int)
    · have b2 : decide (i < (n : Int)) = true := decide_eq_true i1
      have E2 : Hid (dkIn d i = true) := by show _ = _; rw [E.out]; exact decide_eq_true ⟨i0, i1⟩
      clear E
      go_enter Try.func30, Try.ntmps30
      go_wp2_with fail
      go_ret
      exact ⟨by rw [E2.out]; rfl, rfl⟩
    · have b2 : decide (i < (n : Int)) = false := decide_eq_false i1
      have E2 : Hid (dkIn d i = false) := by show _ = _; rw [E.out]; exact decide_eq_false fun q => i1 q.2
      clear E
      go_enter Try.func30, Try.ntmps30
      go_wp2_with fail
      go_ret
      exact ⟨by rw [E2.out]; rfl, rfl⟩
  · have b1 : decide (i ≥ 0) = false := decide_eq_false i0
    have E2 : Hid (dkIn d i = false) := by show _ = _; rw [E.out]; exact decide_eq_false fun q => i0 q.1
    have b3 : decide (0 ≤ i) = false := decide_eq_false i0
    clear E
    go_enter Try.func30, Try.ntmps30
    go_wp2_with fail
    go_ret
    exact ⟨by rw [E2.out]; rfl, rfl⟩

theorem pend15 (B : Nat) (O : Nat → Prop) (g : Nat) (d : Dk) (w : World) (H : DI B O d g w) :
    Calls Try.prog 16 #[.pointer (some ⟨g, 0, none⟩)] w fun e w' => e = .returned (.int .i64 (d.p.length : Int)) ∧ Below w.heap.size w w' := by
  obtain ⟨vP, H⟩ := H
  obtain ⟨A, A', c, c', mb, rfl, h1, r1, r2, tm, _⟩ := H.var
  obtain ⟨c0, c1, c2, c3, fr⟩ := pcell h1
  clear H h1 fr c0 c2 c3 r1 r2 tm
  obtain ⟨n, hn⟩ : ∃ n, n = d.p.length := ⟨_, rfl⟩
  rw [← hn] at c1 ⊢
  clear hn
  go_enter Try.func16, Try.ntmps16
  go_wp2_with fail
  go_ret
  exact ⟨rfl, Below.refl _ _⟩
theorem sect15 (B : Nat) (O : Nat → Prop) (g : Nat) (d : Dk) (w : World) (H : DI B O d g w) :
    Calls Try.prog 18 #[.pointer (some ⟨g, 0, none⟩)] w fun e w' => e = .returned (.int .i64 (d.l.length : Int)) ∧ Below w.heap.size w w' := by
  obtain ⟨vP, H⟩ := H
  obtain ⟨A, A', c, c', mb, rfl, h1, r1, r2, tm, _⟩ := H.var
  obtain ⟨c0, c1, c2, c3, fr⟩ := pcell h1
  clear H h1 fr c1 c2 c3 r1 r2 tm
  obtain ⟨n, hn⟩ : ∃ n, n = d.l.length := ⟨_, rfl⟩
  rw [← hn] at c0 ⊢
  clear hn
  go_enter Try.func18, Try.ntmps18
  go_wp2_with fail
  go_ret
  exact ⟨rfl, Below.refl _ _⟩

set_option maxHeartbeats 1000000 in
theorem fuse15 (B : Nat) (O : Nat → Prop) (g : Nat) (d : Dk) (k : Int) (w : World) (H : DI B O d g w) :
    Calls Try.prog 25 #[.pointer (some ⟨g, 0, none⟩), .int .i64 k] w (DTo B O g (dkFuse d k) (.tuple #[]) w) := by
  obtain ⟨vP, H⟩ := H
  obtain ⟨A, A', c, c', mb, e, h1, r1, r2, tm, _⟩ := H.var
  obtain ⟨c0, c1, c2, c3, fr⟩ := pcell h1
  have f3 := fr 3
  have HH := Lib.hid H
  have HB : Hid (B ≤ g) := (H.lt g H.own).1
  clear H h1 fr c0 c1 c2 r1 r2 tm e
  obtain ⟨m, hm⟩ : ∃ m, m = max k (-1) := ⟨_, rfl⟩
  have HM := Lib.hid hm
  have E : Hid (dkFuse d k = { d with f := m }) := by show _ = _; unfold dkFuse; rw [hm]
  have lt := Lib.hid HH.out.lt
  by_cases q : k < -1
  · have d1 : decide (k < -1) = true := decide_eq_true q
    have d2 : decide (-1 > k) = true := decide_eq_true (by omega)
    have hm1 : max k (-1) = m := hm.symm
    clear hm
    go_enter Try.func25, Try.ntmps25
    go_wp2_with fail
    go_end0
    exact ⟨rfl, by rw [E.out, show m = -1 by rw [HM.out]; omega]; exact ⟨_, (HH.out.fuse (-1) (by decide)).grown lt.out (Nat.le_of_lt (Nat.lt_of_le_of_lt HB.out (lt.out g HH.out.own).2))⟩, (Kept.refl B O w).set (Or.inl HH.out.own) HB.out _⟩
  · have d1 : decide (k < -1) = false := decide_eq_false q
    have d2 : decide (-1 > k) = false := decide_eq_false (by omega)
    have hm1 : max k (-1) = m := hm.symm
    have mk : m = k := by omega
    have MK := Lib.hid mk
    have k1 : Hid (-1 ≤ k) := by show _ ≤ _; omega
    clear hm mk hm1
    go_enter Try.func25, Try.ntmps25
    go_wp2_with fail
    go_end0
    exact ⟨rfl, by rw [E.out, MK.out]; exact ⟨_, (HH.out.fuse k k1.out).grown lt.out (Nat.le_of_lt (Nat.lt_of_le_of_lt HB.out (lt.out g HH.out.own).2))⟩, (Kept.refl B O w).set (Or.inl HH.out.own) HB.out _⟩

/-! ### New -/
theorem Try.infoS : (Try.prog.info? 67).map (fun i => (i.zero, i.size, i.bytes)) = some (some (.agg (Array.replicate 64 (.int .u8 0))), 64, 64) := by kernel_rfl
theorem made_rep (v : Value) (m k : Nat) (hm : 0 < m) : (madeCells (Array.replicate m v) k).toList = List.replicate k v := by
  apply List.ext_getElem?
  intro j
  by_cases hj : j < k
  · have : j % m < m := Nat.mod_lt _ hm
    simp [madeCells, hj, this]
  · simp [madeCells, hj]
theorem zero_flat (n : Nat) : (List.replicate n (fillB 0)).flatMap scells = List.replicate (n * 64) (.int .u8 0) := by
  have e : scells (fillB 0) = List.replicate 64 (.int .u8 0) := by
    rw [scells_eq (fill_len 0)]; rfl
  induction n with
  | zero => simp
  | succ n ih => rw [List.replicate_succ, List.flatMap_cons, ih, e, Nat.succ_mul, Nat.add_comm, ← List.replicate_append_replicate]
def NewD (n : Int) (w : World) (e : Ending) (w' : World) : Prop :=
  (¬ (0 ≤ n ∧ n ≤ 4096) ∧ e = .returned (.pointer none) ∧ Below w.heap.size w w') ∨
  ∃ (m g : Nat), n = (m : Int) ∧ m ≤ 4096 ∧ e = .returned (.pointer (some ⟨g, 0, none⟩)) ∧ DI w.heap.size (Grow (fun _ => False) w w') (dkNew m) g w' ∧ Below w.heap.size w w'
set_option maxHeartbeats 1000000 in
theorem new15 (n : Int) (w : World) : Calls Try.prog 12 #[.int .i64 n] w (NewD n w) := by
  obtain ⟨i0, hi0, hz0, hz1, hz2⟩ := info_parts Try.infoS
  go_enter Try.func12, Try.ntmps12
  by_cases n0 : n < 0
  · have b2 : decide (n < 0) = true := decide_eq_true n0
    have Q : Hid (¬ (0 ≤ n ∧ n ≤ 4096)) := fun q => by omega
    clear n0
    go_wp2_with fail
    go_ret
    exact Or.inl ⟨Q.out, rfl, Below.refl _ _⟩
  have b2 : decide (n < 0) = false := decide_eq_false n0
  by_cases n1 : 4096 < n
  · have b3 : decide (n > 4096) = true := decide_eq_true n1
    have b4 : decide (4096 < n) = true := decide_eq_true n1
    have Q : Hid (¬ (0 ≤ n ∧ n ≤ 4096)) := fun q => by omega
    clear n0 n1
    go_wp2_with fail
    go_ret
    exact Or.inl ⟨Q.out, rfl, Below.refl _ _⟩
  obtain ⟨m, rfl⟩ : ∃ m : Nat, n = m := ⟨n.toNat, by omega⟩
  have b3 : decide ((m : Int) > 4096) = false := decide_eq_false n1
  have b4 : decide ((4096 : Int) < (m : Int)) = false := decide_eq_false n1
  have b5 : decide (4096 < m) = false := decide_eq_false (by omega)
  have m4 : m ≤ 4096 := by omega
  clear n0 n1
  obtain ⟨w1, hw1⟩ : ∃ w1, w1 = w.alloc (.cells (madeCells (Array.replicate 64 (.int .u8 0)) (m * 64)) 67) := ⟨_, rfl⟩
  have hmk : (Instr.makeSlice 53 (.int .i64 (m : Int)) (.int .i64 (m : Int))).run Try.prog w = .ok (.slice (some ⟨w.heap.size, 0, none⟩) m m) w1 := by
    have := run_make (P := Try.prog) w 53 67 i0 _ Try.underlying53 hi0 hz0 .i64 .i64 (m : Int) (m : Int) (by omega) (Int.le_refl _) (by rw [hz2]; omega) (by omega)
    rw [hz1, Int.toNat_natCast] at this
    rw [hw1]
    exact this
  have R1 : Hid (w1.ownsRow w.heap.size 67 64 (.slice (some ⟨w.heap.size, 0, none⟩) m m) m ((List.replicate m (fillB 0)).flatMap scells)) := by
    have := World.ownsRow_lit (base := w.heap.size) (e := 67) (size := 64) w (madeCells (Array.replicate 64 (.int .u8 0)) (m * 64)) m (Nat.le_refl _) (by unfold maxLen; omega) (by rw [size_madeCells])
    rw [made_rep _ _ _ (by decide), ← zero_flat, ← hw1] at this
    exact this
  have B1 : Hid (Below w.heap.size w w1) := by rw [hw1]; exact chain_alloc (Below.refl _ w) _
  have Z1 : Hid (w1.heap.size = w.heap.size + 1) := by show _ = _; rw [hw1]; simp
  obtain ⟨g0, hg0⟩ : ∃ g0, g0 = w.heap.size := ⟨_, rfl⟩
  have HG := Lib.hid hg0
  rw [← hg0] at hmk
  obtain ⟨w2, hw2⟩ : ∃ w2, w2 = w1.alloc (.map #[] 0) := ⟨_, rfl⟩
  obtain ⟨mb, hmb⟩ : ∃ mb, mb = w1.heap.size := ⟨_, rfl⟩
  have hmm : (Instr.makeMap 54 none).run Try.prog w1 = .ok (.map (some mb)) w2 := by rw [hw2, hmb]; exact run_makeMap _ _
  have T2 : Hid (TM w2 mb (List.replicate m false)) := by show TM _ _ _; rw [hw2, hmb]; exact TM.new w1 m
  have R2 : Hid (w2.ownsRow w.heap.size 67 64 (.slice (some ⟨g0, 0, none⟩) m m) m ((List.replicate m (fillB 0)).flatMap scells)) := by rw [HG.out, hw2]; exact World.ownsRow.alloc R1.out _
  have B2 : Hid (Below w.heap.size w w2) := by rw [hw2]; exact chain_alloc B1.out _
  have Z2 : Hid (w2.heap.size = w.heap.size + 2 ∧ mb = w.heap.size + 1) := by
    have := Z1.out
    refine ⟨?_, by rw [hmb, this]⟩
    rw [hw2]; simp [this]
  clear hw1 hi0 hz0 hz1 hz2 hg0 hw2 hmb R1 B1
  go_wp2_with fail
  go_ret
  have q1 := heap_alloc_new w2 (.cells #[.slice (some ⟨g0, 0, none⟩) m m, .slice none 0 0, .map (some mb), .int .i64 (-1)] 57)
  have BA := chain_alloc B2.out (.cells #[.slice (some ⟨g0, 0, none⟩) m m, .slice none 0 0, .map (some mb), .int .i64 (-1)] 57)
  have sz : (w2.alloc (.cells #[.slice (some ⟨g0, 0, none⟩) m m, .slice none 0 0, .map (some mb), .int .i64 (-1)] 57)).heap.size = w2.heap.size + 1 := by simp
  have R3 := World.ownsRow.alloc R2.out (.cells #[.slice (some ⟨g0, 0, none⟩) m m, .slice none 0 0, .map (some mb), .int .i64 (-1)] 57)
  obtain ⟨z1, z2⟩ := Z2.out
  have T3 : TM (w2.alloc (.cells #[.slice (some ⟨g0, 0, none⟩) m m, .slice none 0 0, .map (some mb), .int .i64 (-1)] 57)) mb (List.replicate m false) := T2.out.stay (Lib.alloc_old _ _ _ (by omega))
  generalize w2.alloc (.cells #[.slice (some ⟨g0, 0, none⟩) m m, .slice none 0 0, .map (some mb), .int .i64 (-1)] 57) = w3 at q1 BA sz R3 T3 ⊢
  have hg := HG.out
  refine Or.inr ⟨m, w2.heap.size, rfl, m4, rfl, ⟨.slice none 0 0, fun b q => ?_, Or.inr ⟨by omega, by omega⟩, ⟨m, dk_new m, by omega⟩, .slice (some ⟨g0, 0, none⟩) m m, mb, q1, ?_, World.ownsRow_nil _ _ _ _, T3, fun b q => ?_, fun b q => by simp [Value.ownBlock] at q, Or.inr ⟨by omega, by omega⟩⟩, BA⟩
  · rcases q with q | q
    · exact q.elim
    · exact q
  · rw [show (dkNew m).l.length = m from List.length_replicate]
    exact R3
  · obtain rfl := Option.some.inj q
    exact Or.inr ⟨by show _ ≤ g0; omega, by show g0 < _; omega⟩

end Go.Proofs.Ytpdedeaejlkokaa
