/-
  What the document's own functions of layer 15 answer: New.
-/
import Derived.Test.YtpdedeaejlkokaaDRef6
namespace Go.Proofs.Ytpdedeaejlkokaa
open Go.RowKit

theorem Try.infoH15 : (Try.prog.info? 31).map (fun i => (i.zero, i.size, i.bytes)) = some (some (.slice none 0 0), 1, 24) := by kernel_rfl
theorem Try.infoQ15 : (Try.prog.info? 4).map (fun i => (i.zero, i.size, i.bytes)) = some (some (.bool false), 1, 1) := by kernel_rfl
theorem RDI.pushL {B : Nat} {O : Nat → Prop} {d : Dk} {g : Nat} {w : World} (H : RDI B O d g w) {h : Hd} {l : List UInt8} (hb : Byt w B h l) (hO : ∀ a, h.a = some a → O a.block) {vX : Value} (hc : w.cell? ⟨g, 0, none⟩ = some vX) {nb : Nat}
    (hn : w.heap[nb]? = some (.cells #[.slice h.a h.n h.c] 31 (0, 0))) (hlen : d.l.length ≤ 100000) (hB : B ≤ w.heap.size) :
    ∃ A' n' c' w', (Builtin.append_ #[58, 58] 58 #[vX, .slice (some ⟨nb, 0, none⟩) 1 1]).run Try.prog w = .ok (.slice A' n' c') w' ∧ w'.cell? ⟨g, 0, none⟩ = some vX ∧ w'.frozen? ⟨g, 0, none⟩ = false ∧ Kept B O w w' ∧
      RDI B (Grow O w w') { d with l := d.l ++ [l] } g (w'.setCell ⟨g, 0, none⟩ (.slice A' n' c')) := by
  obtain ⟨i0, hi, hz0, hz1, hz2⟩ := info_parts Try.infoH15
  obtain ⟨lt, hg, vL', vT, vP, hl', hp, q1, q2, q3, q4, q5, q6, q7, q8, q9, q10, q11⟩ := H
  have hv := (dcell0 q1).symm.trans hc
  obtain rfl := Option.some.inj hv
  obtain ⟨v', w', hrun, o2, gr, _, wh⟩ := run_append_own_at (P := Try.prog) w B 58 58 31 i0 (.slice none 0 0) 1 24 Try.underlying58 hi hz0 hz1 hz2 rfl (by decide) vL' d.l.length (hl'.flatMap hcells) q2 ⟨nb, 0, none⟩ 1 1 (hcells h) rfl
    (fun j u hu => by
      rw [show (⟨nb, 0, none⟩ : Addr).add j = ⟨nb, j, none⟩ by unfold Addr.add; split <;> simp_all, Lib.cell_of_heap hn]
      match j, hu with
      | 0, hu => simpa [hcells] using hu
      | j + 1, hu => simp [hcells] at hu)
    (hcells_one _) (by unfold maxLen; omega) (by omega) hB
  obtain ⟨A', c', rfl, _, _⟩ := own_rg (f := hcells) (xs := hl' ++ [h]) hcells_len (by decide) (by rw [List.flatMap_append]; simpa using o2)
  have hgl := (lt g hg).2
  have gk : ∀ b, b < w.heap.size → vL'.ownBlock ≠ some b → w'.heap[b]? = w.heap[b]? := fun b h1 h2 => gr.block b h1 fun e => h2 e.symm
  have gg := gk g hgl fun e => own_ne_type q2 q1 (by decide) e.symm
  have htb : ∀ b, vT.ownBlock = some b → w'.heap[b]? = w.heap[b]? := fun b e => gk b (q4.lt b e).2 fun e2 => own_two q4 q2 (by decide) e e2 rfl
  have hpb : ∀ b, vP.ownBlock = some b → w'.heap[b]? = w.heap[b]? := fun b e => gk b (q5.lt b e).2 fun e2 => own_two q5 q2 (by decide) e e2 rfl
  have hbb : ∀ {h : Hd} {l : List UInt8}, Byt w B h l → ∀ a, h.a = some a → w'.heap[a.block]? = w.heap[a.block]? := fun H a ha => gk _ (H.lt ha).2 fun e2 => own_two H q2 (by decide) (b := a.block) (by simp [Value.ownBlock, ha]) e2 rfl
  have kept : Kept B O w w' := ⟨(Below.refl B w).grown gr hB fun k hk => (q2.lt k hk).1, fun b h1 h2 => gk b h1 fun e => h2 (q7 b e)⟩
  have q1' := gg.trans q1
  have ne : ∀ b, b ≠ g → (w'.setCell ⟨g, 0, none⟩ (.slice A' (d.l.length + 1) c')).heap[b]? = w'.heap[b]? := fun b hn => Below.heap_setCell _ _ _ _ hn
  have o2' : w'.ownsRow B 31 1 (.slice A' (d.l.length + 1) c') (d.l ++ [l]).length ((hl' ++ [h]).flatMap hcells) := by
    rw [List.length_append, List.flatMap_append]; simpa using o2
  have l3 : Bys w' B (hl' ++ [h]) (d.l ++ [l]) := Bys.app (q3.stay fun h' qh a e => by
    obtain ⟨k, hk, e2⟩ := List.mem_iff_getElem.1 qh
    exact hbb (q3.2 k h' _ (by rw [List.getElem?_eq_getElem hk, e2]) (List.getElem?_eq_getElem (by rw [← q3.1]; exact hk))) a e) (hb.stay fun a e => hbb hb a e)
  have p6 : Wrs w' B hp d.p := q6.stay fun x qx a e => by
    obtain ⟨k, hk, e2⟩ := List.mem_iff_getElem.1 qx
    exact hbb (q6.2 k x _ (by rw [List.getElem?_eq_getElem hk, e2]) (List.getElem?_eq_getElem (by rw [← q6.1]; exact hk))).2 a e
  have hBt : ∀ {h : Hd} {l : List UInt8}, Byt w' B h l → ∀ a, h.a = some a → a.block ≠ g := fun H a ha e => by
    obtain ⟨cs, z⟩ := own_type H (b := a.block) (by simp [Value.ownBlock, ha])
    rw [e, q1'] at z
    injection z with z
    injection z with _ z _
    exact absurd z (by decide)
  refine ⟨A', d.l.length + 1, c', w', hrun, dcell0 q1', Lib.frozen_of_heap q1' 0, kept, ⟨fun b q => ?_, Or.inl hg, (.slice A' (d.l.length + 1) c'), vT, vP, hl' ++ [h], hp, Lib.heap_setCell_same q1' _, own_apart o2' q1' (by decide) ne, ?_, own_apart (own_stay q4 htb) q1' (by decide) ne, own_apart (own_stay q5 hpb) q1' (by decide) ne, ?_, fun b q => ?_, fun b q => Or.inl (q8 b q), fun b q => Or.inl (q9 b q), fun x q a e => ?_, fun x q a e => Or.inl (q11 x q a e)⟩⟩
  · rw [World.size_setCell]
    rcases q with q | q
    · exact ⟨(lt b q).1, Nat.lt_of_lt_of_le (lt b q).2 gr.size⟩
    · exact ⟨Nat.le_trans hB q.1, q.2⟩
  · exact ⟨l3.1, fun j h' l' e1 e2 => (l3.2 j h' l' e1 e2).stay fun a ha => ne _ (hBt (l3.2 j h' l' e1 e2) a ha)⟩
  · exact ⟨p6.1, fun j x y e1 e2 => ⟨(p6.2 j x y e1 e2).1, (p6.2 j x y e1 e2).2.stay fun a ha => ne _ (hBt (p6.2 j x y e1 e2).2 a ha)⟩⟩
  · rcases wh with e | e
    · exact Or.inl (q7 b (by rw [← e]; exact q))
    · rw [q] at e
      obtain rfl := Option.some.inj e
      exact Or.inr ⟨Nat.le_refl _, (o2.lt _ q).2⟩
  · rcases List.mem_append.1 q with q | q
    · exact Or.inl (q10 x q a e)
    · rw [List.mem_singleton] at q
      subst q
      exact Or.inl (hO a e)
theorem RDI.pushT {B : Nat} {O : Nat → Prop} {d : Dk} {g : Nat} {w : World} (H : RDI B O d g w) {t : Bool} {vX : Value} (hc : w.cell? ⟨g, 1, none⟩ = some vX) {nb : Nat}
    (hn : w.heap[nb]? = some (.cells #[.bool t] 4 (0, 0))) (hlen : d.t.length ≤ 100000) (hB : B ≤ w.heap.size) :
    ∃ A' n' c' w', (Builtin.append_ #[32, 32] 32 #[vX, .slice (some ⟨nb, 0, none⟩) 1 1]).run Try.prog w = .ok (.slice A' n' c') w' ∧ w'.cell? ⟨g, 1, none⟩ = some vX ∧ w'.frozen? ⟨g, 1, none⟩ = false ∧ Kept B O w w' ∧
      RDI B (Grow O w w') { d with t := d.t ++ [t] } g (w'.setCell ⟨g, 1, none⟩ (.slice A' n' c')) := by
  obtain ⟨i0, hi, hz0, hz1, hz2⟩ := info_parts Try.infoQ15
  obtain ⟨lt, hg, vL, vT', vP, hl', hp, q1, q2, q3, q4, q5, q6, q7, q8, q9, q10, q11⟩ := H
  have hv := (dcell1 q1).symm.trans hc
  obtain rfl := Option.some.inj hv
  obtain ⟨v', w', hrun, o2, gr, _, wh⟩ := run_append_own_at (P := Try.prog) w B 32 32 4 i0 (.bool false) 1 1 Try.underlying32 hi hz0 hz1 hz2 rfl (by decide) vT' d.t.length (d.t.flatMap qcells) q4 ⟨nb, 0, none⟩ 1 1 (qcells t) rfl
    (fun j u hu => by
      rw [show (⟨nb, 0, none⟩ : Addr).add j = ⟨nb, j, none⟩ by unfold Addr.add; split <;> simp_all, Lib.cell_of_heap hn]
      match j, hu with
      | 0, hu => simpa [qcells] using hu
      | j + 1, hu => simp [qcells] at hu)
    (qcells_one _) (by unfold maxLen; omega) (by omega) hB
  obtain ⟨A', c', rfl, _, _⟩ := own_rg (f := qcells) (xs := d.t ++ [t]) qcells_len (by decide) (by rw [List.flatMap_append]; simpa using o2)
  have hgl := (lt g hg).2
  have gk : ∀ b, b < w.heap.size → vT'.ownBlock ≠ some b → w'.heap[b]? = w.heap[b]? := fun b h1 h2 => gr.block b h1 fun e => h2 e.symm
  have gg := gk g hgl fun e => own_ne_type q4 q1 (by decide) e.symm
  have hlb : ∀ b, vL.ownBlock = some b → w'.heap[b]? = w.heap[b]? := fun b e => gk b (q2.lt b e).2 fun e2 => own_two q2 q4 (by decide) e e2 rfl
  have hpb : ∀ b, vP.ownBlock = some b → w'.heap[b]? = w.heap[b]? := fun b e => gk b (q5.lt b e).2 fun e2 => own_two q5 q4 (by decide) e e2 rfl
  have hbb : ∀ {h : Hd} {l : List UInt8}, Byt w B h l → ∀ a, h.a = some a → w'.heap[a.block]? = w.heap[a.block]? := fun H a ha => gk _ (H.lt ha).2 fun e2 => own_two H q4 (by decide) (b := a.block) (by simp [Value.ownBlock, ha]) e2 rfl
  have kept : Kept B O w w' := ⟨(Below.refl B w).grown gr hB fun k hk => (q4.lt k hk).1, fun b h1 h2 => gk b h1 fun e => h2 (q8 b e)⟩
  have q1' := gg.trans q1
  have ne : ∀ b, b ≠ g → (w'.setCell ⟨g, 1, none⟩ (.slice A' (d.t.length + 1) c')).heap[b]? = w'.heap[b]? := fun b hn => Below.heap_setCell _ _ _ _ hn
  have o2' : w'.ownsRow B 4 1 (.slice A' (d.t.length + 1) c') (d.t ++ [t]).length ((d.t ++ [t]).flatMap qcells) := by
    rw [List.length_append, List.flatMap_append]; simpa using o2
  have l3 : Bys w' B hl' d.l := q3.stay fun h' qh a e => by
    obtain ⟨k, hk, e2⟩ := List.mem_iff_getElem.1 qh
    exact hbb (q3.2 k h' _ (by rw [List.getElem?_eq_getElem hk, e2]) (List.getElem?_eq_getElem (by rw [← q3.1]; exact hk))) a e
  have p6 : Wrs w' B hp d.p := q6.stay fun x qx a e => by
    obtain ⟨k, hk, e2⟩ := List.mem_iff_getElem.1 qx
    exact hbb (q6.2 k x _ (by rw [List.getElem?_eq_getElem hk, e2]) (List.getElem?_eq_getElem (by rw [← q6.1]; exact hk))).2 a e
  have hBt : ∀ {h : Hd} {l : List UInt8}, Byt w' B h l → ∀ a, h.a = some a → a.block ≠ g := fun H a ha e => by
    obtain ⟨cs, z⟩ := own_type H (b := a.block) (by simp [Value.ownBlock, ha])
    rw [e, q1'] at z
    injection z with z
    injection z with _ z _
    exact absurd z (by decide)
  refine ⟨A', d.t.length + 1, c', w', hrun, dcell1 q1', Lib.frozen_of_heap q1' 1, kept, ⟨fun b q => ?_, Or.inl hg, vL, (.slice A' (d.t.length + 1) c'), vP, hl', hp, Lib.heap_setCell_same q1' _, own_apart (own_stay q2 hlb) q1' (by decide) ne, ?_, own_apart o2' q1' (by decide) ne, own_apart (own_stay q5 hpb) q1' (by decide) ne, ?_, fun b q => Or.inl (q7 b q), fun b q => ?_, fun b q => Or.inl (q9 b q), fun x q a e => Or.inl (q10 x q a e), fun x q a e => Or.inl (q11 x q a e)⟩⟩
  · rw [World.size_setCell]
    rcases q with q | q
    · exact ⟨(lt b q).1, Nat.lt_of_lt_of_le (lt b q).2 gr.size⟩
    · exact ⟨Nat.le_trans hB q.1, q.2⟩
  · exact ⟨l3.1, fun j h' l' e1 e2 => (l3.2 j h' l' e1 e2).stay fun a ha => ne _ (hBt (l3.2 j h' l' e1 e2) a ha)⟩
  · exact ⟨p6.1, fun j x y e1 e2 => ⟨(p6.2 j x y e1 e2).1, (p6.2 j x y e1 e2).2.stay fun a ha => ne _ (hBt (p6.2 j x y e1 e2).2 a ha)⟩⟩
  · rcases wh with e | e
    · exact Or.inl (q8 b (by rw [← e]; exact q))
    · rw [q] at e
      obtain rfl := Option.some.inj e
      exact Or.inr ⟨Nat.le_refl _, (o2.lt _ q).2⟩
/-- A sector of noughts. -/
theorem made_byt (w : World) {B : Nat} (hB : B ≤ w.heap.size) : Byt (w.alloc (.cells (madeCells #[.int .u8 0] 64) 5)) B ⟨some ⟨w.heap.size, 0, none⟩, 64, 64⟩ (fillB 0) := by
  have := World.ownsRow_lit (base := B) (e := 5) (size := 1) w (madeCells #[.int .u8 0] 64) 64 hB (by decide) (by rw [size_madeCells])
  rw [toList_madeCells_one] at this
  unfold Byt
  rw [fill_len]
  have e : (fillB 0).flatMap bcells = List.replicate 64 (.int .u8 0) := rfl
  rw [e]
  exact this
def dkHalf (k : Nat) : Dk := ⟨List.replicate k (fillB 0), List.replicate k false, [], -1⟩
theorem half_next (k : Nat) : ({ { dkHalf k with l := (dkHalf k).l ++ [fillB 0] } with t := (dkHalf k).t ++ [false] } : Dk) = dkHalf (k + 1) := by
  unfold dkHalf
  simp [List.replicate_succ']
/-- A disk that is made, or none. -/
def NewTo (n : Int) (w : World) (e : Ending) (w' : World) : Prop :=
  (¬ (0 ≤ n ∧ n ≤ 4096) ∧ e = .returned (.pointer none) ∧ Below w.heap.size w w') ∨
  ∃ (m g : Nat), n = (m : Int) ∧ m ≤ 4096 ∧ e = .returned (.pointer (some ⟨g, 0, none⟩)) ∧ RDI w.heap.size (Grow (fun _ => False) w w') (dkNew m) g w' ∧ Below w.heap.size w w'
theorem fresh {w w' w'' : World} {d : Dk} {g : Nat} (H : RDI w.heap.size (Grow (Grow (fun _ => False) w w') w' w'') d g w'') (h1 : w.heap.size ≤ w'.heap.size) (h2 : w'.heap.size ≤ w''.heap.size) : RDI w.heap.size (Grow (fun _ => False) w w'') d g w'' :=
  H.grow (fun b q => grow_next h1 h2 q) fun b q => by
    rcases q with q | q
    · exact q.elim
    · exact q
theorem fresh2 {w w' w'' : World} {d : Dk} {g : Nat} (H : RDI w.heap.size (Grow (fun _ => False) w w') d g w'') (h2 : w'.heap.size ≤ w''.heap.size) : RDI w.heap.size (Grow (fun _ => False) w w'') d g w'' :=
  H.grow (fun b q => q.elim Or.inl fun q => Or.inr ⟨q.1, by omega⟩) fun b q => by
    rcases q with q | q
    · exact q.elim
    · exact q

set_option maxHeartbeats 8000000 in
set_option maxRecDepth 100000 in
theorem rnew15 (n : Int) (w : World) : Calls Try.prog 13 #[.int .i64 n] w (NewTo n w) := by
  obtain ⟨i0, hi0, hz0, hz1, hz2⟩ := info_parts Try.infoB
  go_enter Try.func13, Try.ntmps13
  by_cases n0 : n < 0
  · have b2 : decide (n < 0) = true := decide_eq_true n0
    have Q : Hid (¬ (0 ≤ n ∧ n ≤ 4096)) := fun q => by omega
    clear n0
    go_wp2_with fail
    go_ret
    exact Or.inl ⟨Q.out, rfl, Below.refl _ _⟩
  have b2 : decide (n < 0) = false := decide_eq_false n0
  by_cases n1 : 4096 < n
  · have b3 : decide (n > 4096) = true := decide_eq_true n1
    have b4 : decide (4096 < n) = true := decide_eq_true n1
    have Q : Hid (¬ (0 ≤ n ∧ n ≤ 4096)) := fun q => by omega
    clear n0 n1
    go_wp2_with fail
    go_ret
    exact Or.inl ⟨Q.out, rfl, Below.refl _ _⟩
  obtain ⟨m, rfl⟩ : ∃ m : Nat, n = m := ⟨n.toNat, by omega⟩
  have b3 : decide ((m : Int) > 4096) = false := decide_eq_false n1
  have b4 : decide ((4096 : Int) < (m : Int)) = false := decide_eq_false n1
  have b5 : decide (4096 < m) = false := decide_eq_false (by omega)
  have m4 : m ≤ 4096 := by omega
  clear n0 n1
  have q1 := heap_alloc_new w (.cells #[.slice none 0 0, .slice none 0 0, .slice none 0 0, .int .i64 (-1)] 61)
  have BA := chain_alloc (Below.refl _ w) (.cells #[.slice none 0 0, .slice none 0 0, .slice none 0 0, .int .i64 (-1)] 61)
  have hmk : ∀ w : World, (Instr.makeSlice 31 (.int .i64 64) (.int .i64 64)).run Try.prog w = .ok (.slice (some ⟨w.heap.size, 0, none⟩) 64 64) (w.alloc (.cells (madeCells #[.int .u8 0] 64) 5)) := fun w => by
    have := run_make (P := Try.prog) w 31 5 i0 _ Try.underlying31 hi0 hz0 .i64 .i64 64 64 (by omega) (Int.le_refl _) (by rw [hz2]; omega) (by omega)
    rw [hz1, Nat.mul_one] at this
    exact this
  go_wp2_with fail
  obtain ⟨g, hg⟩ : ∃ g, g = w.heap.size := ⟨_, rfl⟩
  rw [← hg] at q1 ⊢
  have sz : (w.alloc (.cells #[.slice none 0 0, .slice none 0 0, .slice none 0 0, .int .i64 (-1)] 61)).heap.size = w.heap.size + 1 := by simp
  generalize w.alloc (.cells #[.slice none 0 0, .slice none 0 0, .slice none 0 0, .int .i64 (-1)] 61) = w1 at q1 BA sz ⊢
  have D0 : Hid (RDI w.heap.size (Grow (fun _ => False) w w1) (dkHalf 0) g w1) :=
    ⟨fun b q => by rcases q with q | q; exact q.elim; exact q, Or.inr ⟨by omega, by omega⟩, .slice none 0 0, .slice none 0 0, .slice none 0 0, [], [], q1, World.ownsRow_nil _ _ _ _, Bys.nil _ _, World.ownsRow_nil _ _ _ _, World.ownsRow_nil _ _ _ _, Wrs.nil _ _, fun b q => by simp [Value.ownBlock] at q, fun b q => by simp [Value.ownBlock] at q, fun b q => by simp [Value.ownBlock] at q, fun h q => by simp at q, fun x q => by simp at q⟩
  have B0 := Lib.hid BA
  clear BA q1 sz hg
  go_loopg [4] m (fun gh s4 wx => ∃ k : Nat, k ≤ m ∧ Hid (gh = m - k) ∧ s4 = .int .i64 (k : Int) ∧ Hid (RDI w.heap.size (Grow (fun _ => False) w wx) (dkHalf k) g wx) ∧ Hid (Below w.heap.size w wx))
  case atStart => exact ⟨0, by omega, by show _ = _; omega, rfl, D0, B0⟩
  case round =>
    obtain ⟨k, hk, HG, rfl, DK, BK⟩ := hrel
    by_cases km : k < m
    · have ki : (k : Int) < (m : Int) := by omega
      have dk : decide ((k : Int) < (m : Int)) = true := decide_eq_true ki
      obtain ⟨vL, vT, vP, v1, ⟨AL, cL, rfl⟩, ⟨AT, cT, rfl, _⟩, z3⟩ := DK.out.var
      have d1 := dcell0 v1
      have lg := (DK.out.lt g DK.out.own).2
      have k5 : (dkHalf k).l.length ≤ 100000 := by simp [dkHalf]; omega
      have k6 : (dkHalf k).t.length ≤ 100000 := by simp [dkHalf]; omega
      have K5 := Lib.hid k5; have K6 := Lib.hid k6
      obtain ⟨nL, hnL⟩ : ∃ nL, nL = (dkHalf k).l.length := ⟨_, rfl⟩
      rw [← hnL] at d1
      have SW := Lib.hid BK.out.size
      clear v1 z3 k5 k6 hnL
      go_wp2_with fail
      refine wp_region_noPanic ?_
      refine wp_region_held_drew (S := fun w' => True) (by kernel_rfl) trivial (fun hHeld => ?_)
      have hd := below_drew wr
      replace d1 := (hd.cell (p := ⟨g, 0, none⟩) lg).trans d1
      replace lg := Nat.lt_of_lt_of_le lg hd.size
      generalize wr.drew = wq1 at hHeld hd d1 lg ⊢
      have BD : Hid (Below wq1.heap.size wq1 wq1) := Below.refl _ _
      refine wpAnyH_take (i := 0) (v := ?vv3001) (by simp only [List.getElem?_toArray, List.getElem?_cons_zero]; rfl) (by kernel_rfl) (by kernel_rfl) (by kernel_rfl) (fun _ _ _ h => h) (Or.inl ⟨by rfl, ?yy3001⟩) (by assumption) ?rr3001
      case yy3001 => (intro w hSw; (try dsimp only at hSw); go_simp; first | done | with_reducible rfl)
      simp only [Act.put, List.setIfInBounds_toArray, List.set_cons_zero, List.set_cons_succ]
      refine wpAnyH_take (i := 1) (v := ?vv3002) (by simp only [List.getElem?_toArray, List.getElem?_cons_zero, List.getElem?_cons_succ]; rfl) (by kernel_rfl) (by kernel_rfl) (by kernel_rfl) (fun _ _ _ h => h) (Or.inl ⟨by rfl, ?yy3002⟩) (by assumption) ?rr3002
      case yy3002 => (intro w hSw; (try dsimp only at hSw); go_simp; first | done | with_reducible rfl)
      simp only [Act.put, List.setIfInBounds_toArray, List.set_cons_zero, List.set_cons_succ]
      refine wpAnyH_take (i := 2) (v := ?vv3003) (by simp only [List.getElem?_toArray, List.getElem?_cons_zero, List.getElem?_cons_succ]; rfl) (by kernel_rfl) (by kernel_rfl) (by kernel_rfl) (fun _ _ _ h => h) (Or.inl ⟨by rfl, ?yy3003⟩) (by assumption) ?rr3003
      case yy3003 => (intro w hSw; (try dsimp only at hSw); go_simp; first | done | with_reducible rfl)
      simp only [Act.put, List.setIfInBounds_toArray, List.set_cons_zero, List.set_cons_succ]
      refine wpAnyH_take (i := 3) (v := ?vv3004) (by simp only [List.getElem?_toArray, List.getElem?_cons_zero, List.getElem?_cons_succ]; rfl) (by kernel_rfl) (by kernel_rfl) (by kernel_rfl) (fun _ _ _ h => h) (Or.inl ⟨by rfl, ?yy3004⟩) (by assumption) ?rr3004
      case yy3004 => (intro w hSw; (try dsimp only at hSw); go_simp; first | done | with_reducible rfl)
      simp only [Act.put, List.setIfInBounds_toArray, List.set_cons_zero, List.set_cons_succ]
      refine wpAnyH_ready (rs := [4, 5]) (by kernel_rfl) (by simp) ?_
      refine AllReadyH.cons (by simp only [List.getElem?_toArray, List.getElem?_cons_zero, List.getElem?_cons_succ]; rfl) (fun K hK => ?_) ?_
      · skip
        have zc : wq1.cell? ⟨g, 0, none⟩ = some (.slice AL nL cL) := (BD.out.cell (p := ⟨g, 0, none⟩) lg).trans d1
        go_simp
        clear zc
        clear hHeld
        refine hK.out _ _ trivial (fun hHeld => ?_)
        clear hK K
        try simp only [Act.put, List.setIfInBounds_toArray, List.set_cons_zero, List.set_cons_succ]
        refine wpAnyH_ready (rs := [5]) (by kernel_rfl) (by simp) ?_
        refine AllReadyH.cons (by simp only [List.getElem?_toArray, List.getElem?_cons_zero, List.getElem?_cons_succ]; rfl) (fun K hK => ?_) ?_
        · skip
          go_simp
          clear hHeld
          obtain ⟨nb, hnb⟩ : ∃ b, b = wq1.heap.size := ⟨_, rfl⟩
          have RY : Hid (Byt (wq1.alloc (.cells (madeCells #[.int .u8 0] 64) 5)) wq1.heap.size ⟨some ⟨nb, 0, none⟩, 64, 64⟩ (fillB 0)) := by rw [hnb]; exact made_byt wq1 BD.out.size
          rw [← hnb]
          clear hnb
          replace BD := Lib.hid (chain_alloc BD.out (.cells (madeCells #[.int .u8 0] 64) 5))
          refine hK.out _ _ trivial (fun hHeld => ?_)
          clear hK K
          try simp only [Act.put, List.setIfInBounds_toArray, List.set_cons_zero, List.set_cons_succ]
          generalize wq1.alloc (.cells (madeCells #[.int .u8 0] 64) 5) = wq3 at hHeld RY BD ⊢
          refine wpAnyH_ready (rs := [6]) (by kernel_rfl) (by simp) ?_
          refine AllReadyH.cons (by simp only [List.getElem?_toArray, List.getElem?_cons_zero, List.getElem?_cons_succ]; rfl) (fun K hK => ?_) ?_
          · skip
            go_simp
            clear hHeld
            obtain ⟨hb, hhb⟩ : ∃ b, b = wq3.heap.size := ⟨_, rfl⟩
            have RH : Hid ((wq3.alloc (.cells #[.slice (some ⟨nb, 0, none⟩) 64 64] 31)).heap[hb]? = some (.cells #[.slice (some ⟨nb, 0, none⟩) 64 64] 31)) := by rw [hhb]; exact heap_alloc_new wq3 _
            replace RY := Lib.hid (RY.out.stay (w' := wq3.alloc (.cells #[.slice (some ⟨nb, 0, none⟩) 64 64] 31)) fun a ha => Lib.alloc_old _ _ _ (RY.out.lt ha).2)
            rw [← hhb]
            clear hhb
            replace BD := Lib.hid (chain_alloc BD.out (.cells #[.slice (some ⟨nb, 0, none⟩) 64 64] 31))
            refine hK.out _ _ trivial (fun hHeld => ?_)
            clear hK K
            try simp only [Act.put, List.setIfInBounds_toArray, List.set_cons_zero, List.set_cons_succ]
            generalize wq3.alloc (.cells #[.slice (some ⟨nb, 0, none⟩) 64 64] 31) = wq4 at hHeld RH RY BD ⊢
            refine wpAnyH_ready (rs := [7]) (by kernel_rfl) (by simp) ?_
            refine AllReadyH.cons (by simp only [List.getElem?_toArray, List.getElem?_cons_zero, List.getElem?_cons_succ]; rfl) (fun K hK => ?_) ?_
            · skip
              have WS : w.heap.size ≤ wq4.heap.size := Nat.le_trans SW.out (chain hd BD.out).size
              have D5 : RDI w.heap.size (Grow (fun _ => False) w wq4) (dkHalf k) g wq4 := fresh2 (DK.out.below (chain hd BD.out)) (chain hd BD.out).size
              obtain ⟨A6, n6, c6, wq5, run6, gc, gf, k6, d6⟩ := D5.pushL (l := fillB 0) (h := ⟨some ⟨nb, 0, none⟩, 64, 64⟩) (nb := hb) (RY.out.base (Nat.le_trans SW.out hd.size)) (fun a ha => Or.inr ⟨Nat.le_trans (Nat.le_trans SW.out hd.size) (RY.out.lt ha).1, (RY.out.lt ha).2⟩) ((BD.out.cell (p := ⟨g, 0, none⟩) lg).trans d1) RH.out K5.out WS
              refine step_append_run (by kernel_rfl) (.tmp 22) (.tmp 24) 58 58 (by kernel_rfl) (.slice AL nL cL) (.slice (some ⟨hb, 0, none⟩) 1 1) (by kernel_rfl) (by kernel_rfl) (.slice A6 n6 c6) run6 ?_
              refine hK.out _ _ trivial (fun hHeld => ?_)
              clear hK K
              try simp only [Act.put, List.setIfInBounds_toArray, List.set_cons_zero, List.set_cons_succ]
              have GC := Lib.hid gc; have GF := Lib.hid gf; have KW := Lib.hid k6; have D6 := Lib.hid d6
              have W6 := Lib.hid (chain hd BD.out); have WSH := Lib.hid WS
              clear gc gf k6 d6 run6 D5 WS
              refine wpAnyH_take (i := 8) (v := ?vv3005) (by simp only [List.getElem?_toArray, List.getElem?_cons_zero, List.getElem?_cons_succ]; rfl) (by kernel_rfl) (by kernel_rfl) (by kernel_rfl) (fun _ _ _ h => h) (Or.inl ⟨by rfl, ?yy3005⟩) (by assumption) ?rr3005
              case yy3005 => (intro w hSw; (try dsimp only at hSw); go_simp; first | done | with_reducible rfl)
              simp only [Act.put, List.setIfInBounds_toArray, List.set_cons_zero, List.set_cons_succ]
              refine wpAnyH_take (i := 9) (v := ?vv3006) (by simp only [List.getElem?_toArray, List.getElem?_cons_zero, List.getElem?_cons_succ]; rfl) (by kernel_rfl) (by kernel_rfl) (by kernel_rfl) (fun _ _ _ h => h) (Or.inl ⟨by rfl, ?yy3006⟩) (by assumption) ?rr3006
              case yy3006 => (intro w hSw; (try dsimp only at hSw); go_simp; first | done | with_reducible rfl)
              simp only [Act.put, List.setIfInBounds_toArray, List.set_cons_zero, List.set_cons_succ]
              refine wpAnyH_ready (rs := [10]) (by kernel_rfl) (by simp) ?_
              refine AllReadyH.cons (by simp only [List.getElem?_toArray, List.getElem?_cons_zero, List.getElem?_cons_succ]; rfl) (fun K hK => ?_) ?_
              · skip
                have gc := GC.out
                have gf := GF.out
                go_simp
                refine hK.out _ _ trivial (fun hHeld => ?_)
                clear hK K gc gf
                try simp only [Act.put, List.setIfInBounds_toArray, List.set_cons_zero, List.set_cons_succ]
                refine wpAnyH_done (by kernel_rfl) ?_ _
                refine NoPanic.normal ?_
                clear hHeld
                have D7 : RDI w.heap.size (Grow (fun _ => False) w (wq5.setCell ⟨g, 0, none⟩ (.slice A6 n6 c6))) { dkHalf k with l := (dkHalf k).l ++ [fillB 0] } g (wq5.setCell ⟨g, 0, none⟩ (.slice A6 n6 c6)) :=
                  D6.out.grow (fun b q => by rcases grow_next WSH.out KW.out.1.size q with q | q; exact q.elim; exact Or.inr ⟨q.1, by rw [World.size_setCell]; exact q.2⟩) fun b q => by
                    rcases q with q | q
                    · exact q.elim
                    · exact q
                have B7 : Below w.heap.size w (wq5.setCell ⟨g, 0, none⟩ (.slice A6 n6 c6)) := ((BK.out.trans (W6.out.mono SW.out)).trans KW.out.1).setCell (p := ⟨g, 0, none⟩) (DK.out.lt g DK.out.own).1 _
                generalize (wq5.setCell ⟨g, 0, none⟩ (.slice A6 n6 c6)) = w7 at D7 B7 ⊢
                obtain ⟨vL7, vT7, vP7, v17, _, ⟨AT7, cT7, rfl, _⟩, _⟩ := D7.var
                have e1 := dcell1 v17
                have lg7 := (D7.lt g D7.own).2
                have oa := heap_alloc_new w7 (.cells #[.bool false] 4)
                have ba := chain_alloc (Below.refl _ w7) (.cells #[.bool false] 4)
                have D8 : RDI w.heap.size (Grow (fun _ => False) w (w7.alloc (.cells #[.bool false] 4))) { dkHalf k with l := (dkHalf k).l ++ [fillB 0] } g (w7.alloc (.cells #[.bool false] 4)) := fresh2 (D7.below ba) ba.size
                obtain ⟨A8, n8, c8, w8, run8, gc, gf, k8, d8⟩ := D8.pushT (t := false) (nb := w7.heap.size) ((ba.cell (p := ⟨g, 1, none⟩) lg7).trans e1) oa K6.out (Nat.le_trans B7.size ba.size)
                have D9 : Hid (RDI w.heap.size (Grow (fun _ => False) w (w8.setCell ⟨g, 1, none⟩ (.slice A8 n8 c8))) (dkHalf (k + 1)) g (w8.setCell ⟨g, 1, none⟩ (.slice A8 n8 c8))) := by
                  show RDI _ _ _ _ _
                  rw [← half_next]
                  exact d8.grow (fun b q => by rcases grow_next (Nat.le_trans B7.size ba.size) k8.1.size q with q | q; exact q.elim; exact Or.inr ⟨q.1, by rw [World.size_setCell]; exact q.2⟩) fun b q => by
                    rcases q with q | q
                    · exact q.elim
                    · exact q
                have B9 : Hid (Below w.heap.size w (w8.setCell ⟨g, 1, none⟩ (.slice A8 n8 c8))) := ((B7.trans (ba.mono B7.size)).trans k8.1).setCell (p := ⟨g, 1, none⟩) (DK.out.lt g DK.out.own).1 _
                obtain ⟨nT, hnT⟩ : ∃ nT, nT = ({ dkHalf k with l := (dkHalf k).l ++ [fillB 0] } : Dk).t.length := ⟨_, rfl⟩
                rw [← hnT] at e1 run8
                clear D7 B7 D8 d8 k8 oa v17 hd BD RY RH D6 hmk hnT ba
                go_wp2_with (at_builtin; refine Lib.wpList_append_run _ rfl _ _ _ _ rfl _ _ rfl rfl _ _ run8 ?_)
                go_roundg (m - (k + 1))
                case measure => have := HG.out; omega
                case rel => exact ⟨k + 1, by omega, rfl, by go_num, D9, B9⟩
              exact AllReadyH.nil
            exact AllReadyH.nil
          exact AllReadyH.nil
        exact AllReadyH.nil
      refine AllReadyH.cons (by simp only [List.getElem?_toArray, List.getElem?_cons_zero, List.getElem?_cons_succ]; rfl) (fun K hK => ?_) ?_
      · skip
        go_simp
        clear hHeld
        obtain ⟨nb, hnb⟩ : ∃ b, b = wq1.heap.size := ⟨_, rfl⟩
        have RY : Hid (Byt (wq1.alloc (.cells (madeCells #[.int .u8 0] 64) 5)) wq1.heap.size ⟨some ⟨nb, 0, none⟩, 64, 64⟩ (fillB 0)) := by rw [hnb]; exact made_byt wq1 BD.out.size
        rw [← hnb]
        clear hnb
        replace BD := Lib.hid (chain_alloc BD.out (.cells (madeCells #[.int .u8 0] 64) 5))
        refine hK.out _ _ trivial (fun hHeld => ?_)
        clear hK K
        try simp only [Act.put, List.setIfInBounds_toArray, List.set_cons_zero, List.set_cons_succ]
        generalize wq1.alloc (.cells (madeCells #[.int .u8 0] 64) 5) = wq7 at hHeld RY BD ⊢
        refine wpAnyH_ready (rs := [4, 6]) (by kernel_rfl) (by simp) ?_
        refine AllReadyH.cons (by simp only [List.getElem?_toArray, List.getElem?_cons_zero, List.getElem?_cons_succ]; rfl) (fun K hK => ?_) ?_
        · skip
          have zc : wq7.cell? ⟨g, 0, none⟩ = some (.slice AL nL cL) := (BD.out.cell (p := ⟨g, 0, none⟩) lg).trans d1
          go_simp
          clear zc
          clear hHeld
          refine hK.out _ _ trivial (fun hHeld => ?_)
          clear hK K
          try simp only [Act.put, List.setIfInBounds_toArray, List.set_cons_zero, List.set_cons_succ]
          refine wpAnyH_ready (rs := [6]) (by kernel_rfl) (by simp) ?_
          refine AllReadyH.cons (by simp only [List.getElem?_toArray, List.getElem?_cons_zero, List.getElem?_cons_succ]; rfl) (fun K hK => ?_) ?_
          · skip
            go_simp
            clear hHeld
            obtain ⟨hb, hhb⟩ : ∃ b, b = wq7.heap.size := ⟨_, rfl⟩
            have RH : Hid ((wq7.alloc (.cells #[.slice (some ⟨nb, 0, none⟩) 64 64] 31)).heap[hb]? = some (.cells #[.slice (some ⟨nb, 0, none⟩) 64 64] 31)) := by rw [hhb]; exact heap_alloc_new wq7 _
            replace RY := Lib.hid (RY.out.stay (w' := wq7.alloc (.cells #[.slice (some ⟨nb, 0, none⟩) 64 64] 31)) fun a ha => Lib.alloc_old _ _ _ (RY.out.lt ha).2)
            rw [← hhb]
            clear hhb
            replace BD := Lib.hid (chain_alloc BD.out (.cells #[.slice (some ⟨nb, 0, none⟩) 64 64] 31))
            refine hK.out _ _ trivial (fun hHeld => ?_)
            clear hK K
            try simp only [Act.put, List.setIfInBounds_toArray, List.set_cons_zero, List.set_cons_succ]
            generalize wq7.alloc (.cells #[.slice (some ⟨nb, 0, none⟩) 64 64] 31) = wq9 at hHeld RH RY BD ⊢
            refine wpAnyH_ready (rs := [7]) (by kernel_rfl) (by simp) ?_
            refine AllReadyH.cons (by simp only [List.getElem?_toArray, List.getElem?_cons_zero, List.getElem?_cons_succ]; rfl) (fun K hK => ?_) ?_
            · skip
              have WS : w.heap.size ≤ wq9.heap.size := Nat.le_trans SW.out (chain hd BD.out).size
              have D5 : RDI w.heap.size (Grow (fun _ => False) w wq9) (dkHalf k) g wq9 := fresh2 (DK.out.below (chain hd BD.out)) (chain hd BD.out).size
              obtain ⟨A6, n6, c6, wq10, run6, gc, gf, k6, d6⟩ := D5.pushL (l := fillB 0) (h := ⟨some ⟨nb, 0, none⟩, 64, 64⟩) (nb := hb) (RY.out.base (Nat.le_trans SW.out hd.size)) (fun a ha => Or.inr ⟨Nat.le_trans (Nat.le_trans SW.out hd.size) (RY.out.lt ha).1, (RY.out.lt ha).2⟩) ((BD.out.cell (p := ⟨g, 0, none⟩) lg).trans d1) RH.out K5.out WS
              refine step_append_run (by kernel_rfl) (.tmp 22) (.tmp 24) 58 58 (by kernel_rfl) (.slice AL nL cL) (.slice (some ⟨hb, 0, none⟩) 1 1) (by kernel_rfl) (by kernel_rfl) (.slice A6 n6 c6) run6 ?_
              refine hK.out _ _ trivial (fun hHeld => ?_)
              clear hK K
              try simp only [Act.put, List.setIfInBounds_toArray, List.set_cons_zero, List.set_cons_succ]
              have GC := Lib.hid gc; have GF := Lib.hid gf; have KW := Lib.hid k6; have D6 := Lib.hid d6
              have W6 := Lib.hid (chain hd BD.out); have WSH := Lib.hid WS
              clear gc gf k6 d6 run6 D5 WS
              refine wpAnyH_take (i := 8) (v := ?vv3007) (by simp only [List.getElem?_toArray, List.getElem?_cons_zero, List.getElem?_cons_succ]; rfl) (by kernel_rfl) (by kernel_rfl) (by kernel_rfl) (fun _ _ _ h => h) (Or.inl ⟨by rfl, ?yy3007⟩) (by assumption) ?rr3007
              case yy3007 => (intro w hSw; (try dsimp only at hSw); go_simp; first | done | with_reducible rfl)
              simp only [Act.put, List.setIfInBounds_toArray, List.set_cons_zero, List.set_cons_succ]
              refine wpAnyH_take (i := 9) (v := ?vv3008) (by simp only [List.getElem?_toArray, List.getElem?_cons_zero, List.getElem?_cons_succ]; rfl) (by kernel_rfl) (by kernel_rfl) (by kernel_rfl) (fun _ _ _ h => h) (Or.inl ⟨by rfl, ?yy3008⟩) (by assumption) ?rr3008
              case yy3008 => (intro w hSw; (try dsimp only at hSw); go_simp; first | done | with_reducible rfl)
              simp only [Act.put, List.setIfInBounds_toArray, List.set_cons_zero, List.set_cons_succ]
              refine wpAnyH_ready (rs := [10]) (by kernel_rfl) (by simp) ?_
              refine AllReadyH.cons (by simp only [List.getElem?_toArray, List.getElem?_cons_zero, List.getElem?_cons_succ]; rfl) (fun K hK => ?_) ?_
              · skip
                have gc := GC.out
                have gf := GF.out
                go_simp
                refine hK.out _ _ trivial (fun hHeld => ?_)
                clear hK K gc gf
                try simp only [Act.put, List.setIfInBounds_toArray, List.set_cons_zero, List.set_cons_succ]
                refine wpAnyH_done (by kernel_rfl) ?_ _
                refine NoPanic.normal ?_
                clear hHeld
                have D7 : RDI w.heap.size (Grow (fun _ => False) w (wq10.setCell ⟨g, 0, none⟩ (.slice A6 n6 c6))) { dkHalf k with l := (dkHalf k).l ++ [fillB 0] } g (wq10.setCell ⟨g, 0, none⟩ (.slice A6 n6 c6)) :=
                  D6.out.grow (fun b q => by rcases grow_next WSH.out KW.out.1.size q with q | q; exact q.elim; exact Or.inr ⟨q.1, by rw [World.size_setCell]; exact q.2⟩) fun b q => by
                    rcases q with q | q
                    · exact q.elim
                    · exact q
                have B7 : Below w.heap.size w (wq10.setCell ⟨g, 0, none⟩ (.slice A6 n6 c6)) := ((BK.out.trans (W6.out.mono SW.out)).trans KW.out.1).setCell (p := ⟨g, 0, none⟩) (DK.out.lt g DK.out.own).1 _
                generalize (wq10.setCell ⟨g, 0, none⟩ (.slice A6 n6 c6)) = w7 at D7 B7 ⊢
                obtain ⟨vL7, vT7, vP7, v17, _, ⟨AT7, cT7, rfl, _⟩, _⟩ := D7.var
                have e1 := dcell1 v17
                have lg7 := (D7.lt g D7.own).2
                have oa := heap_alloc_new w7 (.cells #[.bool false] 4)
                have ba := chain_alloc (Below.refl _ w7) (.cells #[.bool false] 4)
                have D8 : RDI w.heap.size (Grow (fun _ => False) w (w7.alloc (.cells #[.bool false] 4))) { dkHalf k with l := (dkHalf k).l ++ [fillB 0] } g (w7.alloc (.cells #[.bool false] 4)) := fresh2 (D7.below ba) ba.size
                obtain ⟨A8, n8, c8, w8, run8, gc, gf, k8, d8⟩ := D8.pushT (t := false) (nb := w7.heap.size) ((ba.cell (p := ⟨g, 1, none⟩) lg7).trans e1) oa K6.out (Nat.le_trans B7.size ba.size)
                have D9 : Hid (RDI w.heap.size (Grow (fun _ => False) w (w8.setCell ⟨g, 1, none⟩ (.slice A8 n8 c8))) (dkHalf (k + 1)) g (w8.setCell ⟨g, 1, none⟩ (.slice A8 n8 c8))) := by
                  show RDI _ _ _ _ _
                  rw [← half_next]
                  exact d8.grow (fun b q => by rcases grow_next (Nat.le_trans B7.size ba.size) k8.1.size q with q | q; exact q.elim; exact Or.inr ⟨q.1, by rw [World.size_setCell]; exact q.2⟩) fun b q => by
                    rcases q with q | q
                    · exact q.elim
                    · exact q
                have B9 : Hid (Below w.heap.size w (w8.setCell ⟨g, 1, none⟩ (.slice A8 n8 c8))) := ((B7.trans (ba.mono B7.size)).trans k8.1).setCell (p := ⟨g, 1, none⟩) (DK.out.lt g DK.out.own).1 _
                obtain ⟨nT, hnT⟩ : ∃ nT, nT = ({ dkHalf k with l := (dkHalf k).l ++ [fillB 0] } : Dk).t.length := ⟨_, rfl⟩
                rw [← hnT] at e1 run8
                clear D7 B7 D8 d8 k8 oa v17 hd BD RY RH D6 hmk hnT ba
                go_wp2_with (at_builtin; refine Lib.wpList_append_run _ rfl _ _ _ _ rfl _ _ rfl rfl _ _ run8 ?_)
                go_roundg (m - (k + 1))
                case measure => have := HG.out; omega
                case rel => exact ⟨k + 1, by omega, rfl, by go_num, D9, B9⟩
              exact AllReadyH.nil
            exact AllReadyH.nil
          exact AllReadyH.nil
        refine AllReadyH.cons (by simp only [List.getElem?_toArray, List.getElem?_cons_zero, List.getElem?_cons_succ]; rfl) (fun K hK => ?_) ?_
        · skip
          go_simp
          clear hHeld
          obtain ⟨hb, hhb⟩ : ∃ b, b = wq7.heap.size := ⟨_, rfl⟩
          have RH : Hid ((wq7.alloc (.cells #[.slice (some ⟨nb, 0, none⟩) 64 64] 31)).heap[hb]? = some (.cells #[.slice (some ⟨nb, 0, none⟩) 64 64] 31)) := by rw [hhb]; exact heap_alloc_new wq7 _
          replace RY := Lib.hid (RY.out.stay (w' := wq7.alloc (.cells #[.slice (some ⟨nb, 0, none⟩) 64 64] 31)) fun a ha => Lib.alloc_old _ _ _ (RY.out.lt ha).2)
          rw [← hhb]
          clear hhb
          replace BD := Lib.hid (chain_alloc BD.out (.cells #[.slice (some ⟨nb, 0, none⟩) 64 64] 31))
          refine hK.out _ _ trivial (fun hHeld => ?_)
          clear hK K
          try simp only [Act.put, List.setIfInBounds_toArray, List.set_cons_zero, List.set_cons_succ]
          generalize wq7.alloc (.cells #[.slice (some ⟨nb, 0, none⟩) 64 64] 31) = wq12 at hHeld RH RY BD ⊢
          refine wpAnyH_ready (rs := [4]) (by kernel_rfl) (by simp) ?_
          refine AllReadyH.cons (by simp only [List.getElem?_toArray, List.getElem?_cons_zero, List.getElem?_cons_succ]; rfl) (fun K hK => ?_) ?_
          · skip
            have zc : wq12.cell? ⟨g, 0, none⟩ = some (.slice AL nL cL) := (BD.out.cell (p := ⟨g, 0, none⟩) lg).trans d1
            go_simp
            clear zc
            clear hHeld
            refine hK.out _ _ trivial (fun hHeld => ?_)
            clear hK K
            try simp only [Act.put, List.setIfInBounds_toArray, List.set_cons_zero, List.set_cons_succ]
            refine wpAnyH_ready (rs := [7]) (by kernel_rfl) (by simp) ?_
            refine AllReadyH.cons (by simp only [List.getElem?_toArray, List.getElem?_cons_zero, List.getElem?_cons_succ]; rfl) (fun K hK => ?_) ?_
            · skip
              have WS : w.heap.size ≤ wq12.heap.size := Nat.le_trans SW.out (chain hd BD.out).size
              have D5 : RDI w.heap.size (Grow (fun _ => False) w wq12) (dkHalf k) g wq12 := fresh2 (DK.out.below (chain hd BD.out)) (chain hd BD.out).size
              obtain ⟨A6, n6, c6, wq14, run6, gc, gf, k6, d6⟩ := D5.pushL (l := fillB 0) (h := ⟨some ⟨nb, 0, none⟩, 64, 64⟩) (nb := hb) (RY.out.base (Nat.le_trans SW.out hd.size)) (fun a ha => Or.inr ⟨Nat.le_trans (Nat.le_trans SW.out hd.size) (RY.out.lt ha).1, (RY.out.lt ha).2⟩) ((BD.out.cell (p := ⟨g, 0, none⟩) lg).trans d1) RH.out K5.out WS
              refine step_append_run (by kernel_rfl) (.tmp 22) (.tmp 24) 58 58 (by kernel_rfl) (.slice AL nL cL) (.slice (some ⟨hb, 0, none⟩) 1 1) (by kernel_rfl) (by kernel_rfl) (.slice A6 n6 c6) run6 ?_
              refine hK.out _ _ trivial (fun hHeld => ?_)
              clear hK K
              try simp only [Act.put, List.setIfInBounds_toArray, List.set_cons_zero, List.set_cons_succ]
              have GC := Lib.hid gc; have GF := Lib.hid gf; have KW := Lib.hid k6; have D6 := Lib.hid d6
              have W6 := Lib.hid (chain hd BD.out); have WSH := Lib.hid WS
              clear gc gf k6 d6 run6 D5 WS
              refine wpAnyH_take (i := 8) (v := ?vv3009) (by simp only [List.getElem?_toArray, List.getElem?_cons_zero, List.getElem?_cons_succ]; rfl) (by kernel_rfl) (by kernel_rfl) (by kernel_rfl) (fun _ _ _ h => h) (Or.inl ⟨by rfl, ?yy3009⟩) (by assumption) ?rr3009
              case yy3009 => (intro w hSw; (try dsimp only at hSw); go_simp; first | done | with_reducible rfl)
              simp only [Act.put, List.setIfInBounds_toArray, List.set_cons_zero, List.set_cons_succ]
              refine wpAnyH_take (i := 9) (v := ?vv3010) (by simp only [List.getElem?_toArray, List.getElem?_cons_zero, List.getElem?_cons_succ]; rfl) (by kernel_rfl) (by kernel_rfl) (by kernel_rfl) (fun _ _ _ h => h) (Or.inl ⟨by rfl, ?yy3010⟩) (by assumption) ?rr3010
              case yy3010 => (intro w hSw; (try dsimp only at hSw); go_simp; first | done | with_reducible rfl)
              simp only [Act.put, List.setIfInBounds_toArray, List.set_cons_zero, List.set_cons_succ]
              refine wpAnyH_ready (rs := [10]) (by kernel_rfl) (by simp) ?_
              refine AllReadyH.cons (by simp only [List.getElem?_toArray, List.getElem?_cons_zero, List.getElem?_cons_succ]; rfl) (fun K hK => ?_) ?_
              · skip
                have gc := GC.out
                have gf := GF.out
                go_simp
                refine hK.out _ _ trivial (fun hHeld => ?_)
                clear hK K gc gf
                try simp only [Act.put, List.setIfInBounds_toArray, List.set_cons_zero, List.set_cons_succ]
                refine wpAnyH_done (by kernel_rfl) ?_ _
                refine NoPanic.normal ?_
                clear hHeld
                have D7 : RDI w.heap.size (Grow (fun _ => False) w (wq14.setCell ⟨g, 0, none⟩ (.slice A6 n6 c6))) { dkHalf k with l := (dkHalf k).l ++ [fillB 0] } g (wq14.setCell ⟨g, 0, none⟩ (.slice A6 n6 c6)) :=
                  D6.out.grow (fun b q => by rcases grow_next WSH.out KW.out.1.size q with q | q; exact q.elim; exact Or.inr ⟨q.1, by rw [World.size_setCell]; exact q.2⟩) fun b q => by
                    rcases q with q | q
                    · exact q.elim
                    · exact q
                have B7 : Below w.heap.size w (wq14.setCell ⟨g, 0, none⟩ (.slice A6 n6 c6)) := ((BK.out.trans (W6.out.mono SW.out)).trans KW.out.1).setCell (p := ⟨g, 0, none⟩) (DK.out.lt g DK.out.own).1 _
                generalize (wq14.setCell ⟨g, 0, none⟩ (.slice A6 n6 c6)) = w7 at D7 B7 ⊢
                obtain ⟨vL7, vT7, vP7, v17, _, ⟨AT7, cT7, rfl, _⟩, _⟩ := D7.var
                have e1 := dcell1 v17
                have lg7 := (D7.lt g D7.own).2
                have oa := heap_alloc_new w7 (.cells #[.bool false] 4)
                have ba := chain_alloc (Below.refl _ w7) (.cells #[.bool false] 4)
                have D8 : RDI w.heap.size (Grow (fun _ => False) w (w7.alloc (.cells #[.bool false] 4))) { dkHalf k with l := (dkHalf k).l ++ [fillB 0] } g (w7.alloc (.cells #[.bool false] 4)) := fresh2 (D7.below ba) ba.size
                obtain ⟨A8, n8, c8, w8, run8, gc, gf, k8, d8⟩ := D8.pushT (t := false) (nb := w7.heap.size) ((ba.cell (p := ⟨g, 1, none⟩) lg7).trans e1) oa K6.out (Nat.le_trans B7.size ba.size)
                have D9 : Hid (RDI w.heap.size (Grow (fun _ => False) w (w8.setCell ⟨g, 1, none⟩ (.slice A8 n8 c8))) (dkHalf (k + 1)) g (w8.setCell ⟨g, 1, none⟩ (.slice A8 n8 c8))) := by
                  show RDI _ _ _ _ _
                  rw [← half_next]
                  exact d8.grow (fun b q => by rcases grow_next (Nat.le_trans B7.size ba.size) k8.1.size q with q | q; exact q.elim; exact Or.inr ⟨q.1, by rw [World.size_setCell]; exact q.2⟩) fun b q => by
                    rcases q with q | q
                    · exact q.elim
                    · exact q
                have B9 : Hid (Below w.heap.size w (w8.setCell ⟨g, 1, none⟩ (.slice A8 n8 c8))) := ((B7.trans (ba.mono B7.size)).trans k8.1).setCell (p := ⟨g, 1, none⟩) (DK.out.lt g DK.out.own).1 _
                obtain ⟨nT, hnT⟩ : ∃ nT, nT = ({ dkHalf k with l := (dkHalf k).l ++ [fillB 0] } : Dk).t.length := ⟨_, rfl⟩
                rw [← hnT] at e1 run8
                clear D7 B7 D8 d8 k8 oa v17 hd BD RY RH D6 hmk hnT ba
                go_wp2_with (at_builtin; refine Lib.wpList_append_run _ rfl _ _ _ _ rfl _ _ rfl rfl _ _ run8 ?_)
                go_roundg (m - (k + 1))
                case measure => have := HG.out; omega
                case rel => exact ⟨k + 1, by omega, rfl, by go_num, D9, B9⟩
              exact AllReadyH.nil
            exact AllReadyH.nil
          exact AllReadyH.nil
        exact AllReadyH.nil
      exact AllReadyH.nil
    · obtain rfl : k = m := by omega
      have dk : decide ((k : Int) < (k : Int)) = false := decide_eq_false (Int.lt_irrefl _)
      clear hmk
      go_wp2_with fail
      go_ret
      exact Or.inr ⟨k, g, rfl, m4, rfl, DK.out, BK.out⟩

end Go.Proofs.Ytpdedeaejlkokaa
