/-
  What package disk answers: call, settle, whatever is done.
-/
import Derived.Test.YtpdedeaejlkokaaDPub4
namespace Go.Proofs.Ytpdedeaejlkokaa
open Go.RowKit

set_option maxHeartbeats 1000000 in
theorem call15 (B : Nat) (O : Nat → Prop) (g : Nat) (d : Dk) (vP : Value) (F : Nat) (caps : Array Value) (w : World) (Q : Ending → World → Prop) (H : DP B O d g vP w) (hf : d.f ≤ 9223372036854775807)
    (hE : ∀ args w, Sem.run Try.prog (callFunc F args) w = .ok (.enter F args) w)
    (h0 : d.f = 0 → Q (.returned (.int .i64 42)) w)
    (h1 : ¬ d.f = 0 → ∀ w1, DP B O (dkTick d) g vP w1 → Kept B O w w1 → w1.heap.size = w.heap.size → Calls Try.prog F caps w1 fun e w' => ∃ v : Int, e = .returned (.int .i64 v) ∧ Q e w') :
    Calls Try.prog 33 #[.pointer (some ⟨g, 0, none⟩), .func (.func F) #[] caps] w fun e w' => Q e w' ∧ True := by
  obtain ⟨A, A', c, c', mb, e0, q1, r1, r2, tm, _⟩ := H.var
  obtain ⟨c0, c1, c2, c3, fr⟩ := pcell q1
  have f3 := fr 3
  have f1 : -1 ≤ d.f := by obtain ⟨n, ok, _⟩ := H.ok; exact ok.f
  have HH := Lib.hid H
  have HB : Hid (B ≤ g) := (H.lt g H.own).1
  have H0 := Lib.hid h0; have H1 := Lib.hid h1
  clear H q1 fr c0 c1 c2 r1 r2 tm h0 h1 e0
  obtain ⟨f, hfe⟩ : ∃ f, f = d.f := ⟨_, rfl⟩
  rw [← hfe] at c3 hf f1
  have HF := Lib.hid hfe
  clear hfe
  by_cases z : f = 0
  · have b0 : (f == 0) = true := by simp [z]
    have Q0 := Lib.hid (H0.out (HF.out.symm.trans z))
    subst z
    clear H0 H1
    go_enter Try.func33, Try.ntmps33
    go_wp2_with fail
    go_ret
    exact ⟨Q0.out, trivial⟩
  · have b0 : (f == 0) = false := by simpa using z
    have Q1 := Lib.hid (H1.out fun q => z (HF.out.trans q))
    clear H0 H1
    by_cases p : 0 < f
    · have d1 : decide (f > 0) = true := decide_eq_true p
      have d2 : decide (0 < f) = true := decide_eq_true p
      have E : Hid (dkTick d = { d with f := f - 1 }) := by
        show _ = _
        unfold dkTick
        rw [← HF.out, if_pos p]
      have v1 : IntKind.i64.wrap (f - 1) = f - 1 := IntWalk.i64_in _ (by omega)
      have v2 : wrap64 (f - 1) = f - 1 := IntWalk.wrap64_in _ (by omega)
      obtain ⟨m, hm⟩ : ∃ m, m = f - 1 := ⟨_, rfl⟩
      have m1 : Hid (-1 ≤ m) := by show _ ≤ _; omega
      rw [← hm] at v1 v2 E
      have v1 : IntKind.i64.wrap (f - 1) = m := by rw [hm] at v1 ⊢; exact v1
      have v2 : wrap64 (f - 1) = m := by rw [hm] at v2 ⊢; exact v2
      have CN := Lib.hid (Q1.out (w.setCell ⟨g, 3, none⟩ (.int .i64 m)) (by rw [E.out]; exact HH.out.fuse m m1.out) ((Kept.refl B O w).set (Or.inl HH.out.own) HB.out _) (World.size_setCell _ _ _))
      clear z p hf hm Q1 f1
      go_enter Try.func33, Try.ntmps33
      go_wp2_with fail
      refine CN.out.mono ?_
      rintro e w' ⟨v, rfl, h⟩
      have HQ := Lib.hid h
      clear h
      go_wp2_with fail
      go_ret
      exact ⟨HQ.out, trivial⟩
    · have d1 : decide (f > 0) = false := decide_eq_false p
      have d2 : decide (0 < f) = false := decide_eq_false p
      have E : Hid (dkTick d = d) := by
        show _ = _
        unfold dkTick
        rw [← HF.out, if_neg p]
      have CN := Lib.hid (Q1.out w (by rw [E.out]; exact HH.out) (Kept.refl _ _ _) rfl)
      clear z p hf Q1 f1
      go_enter Try.func33, Try.ntmps33
      go_wp2_with fail
      refine CN.out.mono ?_
      rintro e w' ⟨v, rfl, h⟩
      have HQ := Lib.hid h
      clear h
      go_wp2_with fail
      go_ret
      exact ⟨HQ.out, trivial⟩

theorem wpList_store_new {P : Program} {ops : Array Oper} {rest : List Oper} {op : Oper} {a : Act} {w : World} {Q : Exit → Act → World → Prop} (hgd : op.guard = none) (ty : TypeId) (x y : Operand) (ho : op.op = .store ty x y)
    (Z C : Array Value) (hx : a.eval x = .pointer (some ⟨w.heap.size, 0, none⟩)) (hy : a.eval y = .agg C) (hi : (P.info? ty).map (·.size) = some C.size) (hs : Z.size = C.size) (h1 : C.all (·.oneCell') = true)
    (h : wpList P ops Q rest (a.put op.dst undef) (w.alloc (.cells C ty))) : wpList P ops Q (op :: rest) a (w.alloc (.cells Z ty)) :=
  wpList_plain hgd fun _ hK => by
    unfold Oper.wp execOp
    simp only [ho, hx, hy, Instr.storeAt, Instr.sureAddr, Sem.run_bind, Sem.run_pure, Result.andThen_ok, run_storeVar_new w ty Z C hi hs h1]
    exact hK _ _ h
theorem wcells_size (x : Nat × List UInt8) : (wcells x).toArray.size = 65 := by rw [List.size_toArray, wcells_len]
set_option maxHeartbeats 2000000 in
set_option maxRecDepth 100000 in
theorem settle15 (B : Nat) (O : Nat → Prop) (g : Nat) (d : Dk) (vP : Value) (F : Nat) (caps : Array Value) (D : Nat → Dk) (w : World) (H : DP B O d g vP w) (hB : B ≤ w.heap.size) (hp : d.p.length ≤ 100000)
    (hE : ∀ args w, Sem.run Try.prog (callFunc F args) w = .ok (.enter F args) w)
    (hD : D 0 = d) (hDp : ∀ k, (D k).p = d.p)
    (hF : ∀ (k : Nat) (x : Nat × List UInt8) (C : Array Value) (w1 : World), d.p[k]? = some x → C = (wcells x).toArray → DP B O (D k) g vP w1 → Kept B O w w1 → Calls Try.prog F (#[.int .i64 (k : Int), .agg C] ++ caps) w1 fun e w' => e = .returned (.tuple #[]) ∧ DP B O (D (k + 1)) g vP w' ∧ Kept B O w1 w') :
    Calls Try.prog 35 #[.pointer (some ⟨g, 0, none⟩), .func (.func F) #[] caps] w fun e w' => e = .returned (.tuple #[]) ∧ DP B O { D d.p.length with p := [] } g (.slice none 0 0) w' ∧ Kept B O w w' := by
  obtain ⟨A, A', c, c', mb, e0, q1, r1, r2, tm, _⟩ := H.var
  obtain ⟨c0, c1, c2, c3, fr⟩ := pcell q1
  obtain ⟨n, hn⟩ : ∃ n, n = d.p.length := ⟨_, rfl⟩
  rw [e0, ← hn] at c1
  have hv : vP = .slice A' n c' := by rw [e0, hn]
  have HN := Lib.hid hn; have HV := Lib.hid hv
  have n1 : n ≤ 100000 := by omega
  have D0 : Hid (DP B O (D 0) g vP w) := by show DP _ _ _ _ _ _; rw [hD]; exact H
  have K0 : Hid (Kept B O w w) := Kept.refl _ _ _
  have HF := Lib.hid hF; have HD := Lib.hid hDp; have HBB := Lib.hid hB
  obtain ⟨Z, hZ⟩ : ∃ Z : Array Value, Z = #[.int .i64 0] ++ Array.replicate 64 (.int .u8 0) := ⟨_, rfl⟩
  have hz : ∀ w, (zeroValue 69).run Try.prog w = .ok (.agg Z) w := by
    rw [hZ]; exact (zero_of_info (n := 65) (by kernel_rfl)).1
  have ZS : Hid (Z.size = 65) := by show _ = _; rw [hZ]; rfl
  rw [← hn]
  clear H q1 r1 r2 tm c0 c2 c3 fr e0 hv hn hF hDp hD hZ hB hp
  go_enter Try.func35, Try.ntmps35
  go_wp2_with fail
  go_loopg [11] n (fun gh s11 wx => ∃ k : Nat, k ≤ n ∧ Hid (gh = n - k) ∧ s11 = .int .i64 (k : Int) ∧ Hid (DP B O (D k) g vP wx) ∧ Hid (Kept B O w wx))
  case atStart => exact ⟨0, by omega, by show _ = _; omega, rfl, D0, K0⟩
  case round =>
    obtain ⟨k, hk, HG, rfl, DK, KK⟩ := hrel
    by_cases kn : k < n
    · have ki : (k : Int) < (n : Int) := by omega
      have k0 : (0 : Int) ≤ (k : Int) := by omega
      have hx := List.getElem?_eq_getElem (show k < d.p.length by rw [← HN.out]; exact kn)
      obtain ⟨x, hxe⟩ : ∃ x, x = d.p[k]'(by rw [← HN.out]; exact kn) := ⟨_, rfl⟩
      rw [← hxe] at hx
      have XK := Lib.hid hx
      obtain ⟨b, cb, hv, ob, hr⟩ := DK.out.P (k := k) (x := x) (by rw [HD.out]; exact hx)
      rw [HV.out] at hv
      injection hv with hv1 hv2 hv3
      subst hv1
      obtain ⟨ty, hty, hrow⟩ := writeT
      have HR := Lib.hid hr
      have tb := heap_alloc_new wr (.cells (wcells x).toArray 69)
      have BA := chain_alloc (Below.refl _ wr) (.cells (wcells x).toArray 69)
      have R2 : Hid ((wr.alloc (.cells (wcells x).toArray 69)).rangeAt wr.heap.size 0 (wcells x)) := fun j v hj => by
        rw [Lib.cell_of_heap tb, Nat.zero_add]
        simpa using hj
      have WI : Hid ((Try.prog.info? 69).map (·.size) = some (wcells x).length) := by show _ = _; rw [writeI, wcells_len]
      have WA : Hid ((Try.prog.info? 69).map (·.size) = some (wcells x).toArray.size) := by show _ = _; rw [writeI, wcells_size]
      have TY := Lib.hid hty; have RW := Lib.hid hrow
      have CL := Lib.hid (HF.out k x _ (wr.alloc (.cells (wcells x).toArray 69)) hx rfl (DK.out.below BA) (KK.out.more HBB.out BA))
      have K1 := Lib.hid (KK.out.more HBB.out BA)
      clear hxe hx hv2 hv3 hr hty hrow tb BA ob
      go_wp2_with (first | refine wpList_load_mid rfl 69 _ rfl b (k * 65) rfl (wcells x) ty HR.out TY.out RW.out WI.out ?_ | refine wpList_load_mid rfl 69 _ rfl wr.heap.size 0 rfl (wcells x) ty R2.out TY.out RW.out WI.out ?_ | refine wpList_store_new rfl 69 _ _ rfl Z _ rfl rfl WA.out (ZS.out.trans (wcells_size x).symm) (all_oneCell_toArray (wcells_one x)) ?_ | fail)
      refine CL.out.mono ?_
      rintro e w5 ⟨rfl, h1, h2⟩
      have D5 := Lib.hid h1
      have K5 : Hid (Kept B O w w5) := K1.out.next h2 fun b q => Or.inl q
      clear h1 h2
      go_wp2_with fail
      go_roundg (n - (k + 1))
      case measure => have := HG.out; omega
      case rel => exact ⟨k + 1, by omega, rfl, by go_num, D5, K5⟩
    · obtain rfl : k = n := by omega
      have ki : decide ((k : Int) < (k : Int)) = false := decide_eq_false (Int.lt_irrefl _)
      obtain ⟨A2, A2', c2, c2', mb2, e2, q2, _⟩ := DK.out.var
      obtain ⟨d0, d1, d2, d3, fr⟩ := pcell q2
      have f1 := fr 1
      have OG := Lib.hid DK.out.own
      clear q2 d0 d2 d3 fr e2
      go_wp2_with fail
      go_end0
      exact ⟨rfl, DK.out.empty, KK.out.set (Or.inl OG.out) (DK.out.lt g OG.out).1 _⟩

end Go.Proofs.Ytpdedeaejlkokaa
