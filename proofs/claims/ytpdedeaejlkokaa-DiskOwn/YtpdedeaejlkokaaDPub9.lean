/-
  What the library's Backward tells of a disk's pending writes: the last first.
-/
import Derived.Test.YtpdedeaejlkokaaDPub8
import Derived.Test.YtpdedeaejlkokaaRFun
namespace Go.Proofs.Ytpdedeaejlkokaa
open Go.RowKit Go.Shelf
attribute [local go_sem] Oper.semAt_some

theorem wpListIn_load_mid {F : Fence} {nF : Nat} {P : Program} {ops : Array Oper} {rest : List Oper} {op : Oper} {a : Act} {w : World} {Q : Exit → Act → World → Prop} (hgd : op.guard = none) (ty : TypeId) (x : Operand) (ho : op.op = .load ty x)
    (b o : Nat) (hx : a.eval x = .pointer (some ⟨b, o, none⟩)) (cs : List Value) (d : TypeDesc) (hc : w.rangeAt b o cs)
    (hu : P.underlying ty = some d) (hd : d.isRow = true) (hi : (P.info? ty).map (·.size) = some cs.length)
    (h : wpListIn F nF P ops Q rest (a.put op.dst (.agg cs.toArray)) w) : wpListIn F nF P ops Q (op :: rest) a w := by
  refine wpListIn_plain hgd fun K' hK' => ?_
  unfold Oper.wpIn
  refine ⟨by simp [Oper.about, ho], ?_⟩
  rw [Oper.semAt_plain F _ _ (by rw [ho]; intro c hc'; cases hc')]
  unfold execOp
  simp only [ho, hx, Instr.loadAt, Instr.sureAddr, Sem.run_bind, Sem.run_pure, Result.andThen_ok, run_loadVar_mid w b o ty cs d hc hu hd hi]
  exact hK' _ _ h

def encB (p : List (Nat × List UInt8)) (y : Fin p.length) : Array Value := #[.int .i64 ((y.1 : Nat) : Int), .agg (wcells p[y]).toArray]
/-- So many of them, from the last on. -/
def dnI (p : List (Nat × List UInt8)) : Nat → List (Fin p.length)
  | 0 => []
  | j + 1 => if h : j < p.length then dnI p j ++ [⟨p.length - 1 - j, by omega⟩] else dnI p j
theorem dn_next {p : List (Nat × List UInt8)} {j : Nat} (h : j < p.length) : dnI p (j + 1) = dnI p j ++ [⟨p.length - 1 - j, by omega⟩] := dif_pos h
theorem dn_len (p : List (Nat × List UInt8)) : ∀ j, (dnI p j).length ≤ j
  | 0 => Nat.le_refl _
  | j + 1 => by
    have := dn_len p j
    unfold dnI
    split
    · rw [List.length_append, List.length_singleton]; omega
    · omega

set_option maxHeartbeats 2000000 in
set_option maxRecDepth 100000 in
theorem back_stops (m : Nat) (p : List (Nat × List UInt8)) (A : Option Addr) (n c b : Nat) (w0 : World) (hp : n = p.length) (hn : n ≤ 100000) (hr : Rg wcells w0 A p) (hb : CB w0 b 55 (.slice A n c)) :
    SeqStopsK Fence.wide m Try.prog 42 #[.pointer (some ⟨b, 0, none⟩)] (encB p) (Below w0.heap.size) (fun ys => ys = dnI p p.length) (fun pre => ∃ j, j ≤ p.length ∧ pre = dnI p j) p.length w0 := by
  intro l J Jx W hW hJ hJx hY h0
  obtain ⟨ty, hty, hrow⟩ := writeT
  have TY := Lib.hid hty; have RW := Lib.hid hrow
  have HY := Lib.hid hY; have HJ := Lib.hid hJ; have HP := Lib.hid hp; have BW := Lib.hid hW; have J0 := Lib.hid h0
  have RR := Lib.hid hr; have CC := Lib.hid hb
  have cb := (hb.below hW).cell
  obtain ⟨v0, hv0⟩ : ∃ v0, v0 = (n : Int) - 1 := ⟨_, rfl⟩
  have v1 : IntKind.i64.wrap ((n : Int) - 1) = v0 := by rw [hv0]; exact IntWalk.i64_in _ (by omega)
  have v2 : wrap64 ((n : Int) - 1) = v0 := by rw [hv0]; exact IntWalk.wrap64_in _ (by omega)
  have HV := Lib.hid hv0
  clear hY hJ hJx hp hr hb hW h0 hty hrow hv0
  refine callsIn_of_wp Try.func42 rfl trivial ?_ rfl
  simp only [Try.ntmps42, List.size_toArray, List.length_cons, List.length_nil, Nat.reduceAdd, Nat.reduceSub, Array.replicate_succ, Array.replicate_zero, List.push_toArray, List.append_toArray, List.nil_append, List.cons_append]
  gi_wp2_with fail
  clear cb v1 v2
  gi_loopw [3] (fun s3 wr => ∃ (k : Nat) (v : Int), k ≤ n ∧ Hid (v = (k : Int) - 1) ∧ s3 = .int .i64 v ∧ Hid (J (dnI p (n - k)) wr) ∧ Hid (Below w0.heap.size w0 wr)) (fun s3 _ => (intOf s3 + 1).toNat)
  case atStart => exact ⟨n, v0, Nat.le_refl _, HV, rfl, by rw [Nat.sub_self]; exact J0, BW⟩
  case round =>
    obtain ⟨k, v, hk, EV, rfl, JK, BK⟩ := hrel
    by_cases k0 : k = 0
    · subst k0
      have hv : v = -1 := by have := EV.out; omega
      subst hv
      gi_wp2_with fail
      go_end0
      exact ⟨⟨_, rfl⟩, .inl ⟨_, by rw [Nat.sub_zero, HP.out], JK.out⟩⟩
    · obtain ⟨q, rfl⟩ : ∃ q, k = q + 1 := ⟨k - 1, by omega⟩
      have hv : v = (q : Int) := by have := EV.out; omega
      subst hv
      have qn : q < n := by omega
      have ki : (q : Int) < (n : Int) := by omega
      have q0 : (0 : Int) ≤ (q : Int) := Int.natCast_nonneg _
      have d0 : decide ((q : Int) ≥ 0) = true := decide_eq_true q0
      have ql : q < p.length := by rw [← HP.out]; exact qn
      obtain ⟨x, hx⟩ : ∃ x, x = p[q] := ⟨_, rfl⟩
      have gx : p[q]? = some x := by rw [hx]; exact List.getElem?_eq_getElem ql
      obtain ⟨bA, oA, rfl, lA, qA⟩ := RR.out (by omega)
      have HR : Hid (wr.rangeAt bA (oA + q * 65) (wcells x)) := fun j u hu => by
        rw [BK.out.cell (p := ⟨bA, oA + q * 65 + j, none⟩) lA]
        exact Rg.at wcells_len qA gx j u hu
      have WI : Hid ((Try.prog.info? 69).map (·.size) = some (wcells x).length) := by show _ = _; rw [writeI, wcells_len]
      have cb := (CC.out.below BK.out).cell
      have e1 : n - q = n - (q + 1) + 1 := by omega
      have YL : Hid (∀ W1, J (dnI p (n - (q + 1))) W1 → YieldAt Fence.wide (m - 1) Try.prog l #[.int .i64 (q : Int), .agg (wcells x).toArray] W1 fun e W' => (e = .returned (.bool true) ∧ J (dnI p (n - q)) W' ∧ Below w0.heap.size W1 W') ∨ (e = .returned (.bool false) ∧ Jx (dnI p (n - q)) W')) := fun W1 j1 => by
        have hpn : n = p.length := HP.out
        have := HY.out _ ⟨p.length - 1 - (n - (q + 1)), by omega⟩ W1 j1 (by have := dn_len p (n - (q + 1)); omega)
        rw [e1, dn_next (by omega)]
        have eq : (⟨p.length - 1 - (n - (q + 1)), by omega⟩ : Fin p.length) = ⟨q, ql⟩ := Fin.ext (by show p.length - 1 - (n - (q + 1)) = q; omega)
        rw [eq] at this ⊢
        rw [hx]
        exact this
      obtain ⟨fn, tm, asg, bod, hy, hR⟩ := YL.out _ JK.out
      have HRR := Lib.hid hR
      obtain ⟨v', hv'⟩ : ∃ v', v' = (q : Int) - 1 := ⟨_, rfl⟩
      have v1 : IntKind.i64.wrap ((q : Int) - 1) = v' := by rw [hv']; exact IntWalk.i64_in _ (by omega)
      have v2 : wrap64 ((q : Int) - 1) = v' := by rw [hv']; exact IntWalk.wrap64_in _ (by omega)
      have HV' := Lib.hid hv'
      have HE1 := Lib.hid e1
      clear hR qA hx gx e1 hv' EV
      gi_wp2_with (first | refine wpListIn_load_mid rfl 69 _ rfl bA (oA + q * 65) rfl (wcells x) ty HR.out TY.out RW.out WI.out ?_ | fail)
      refine ⟨fun z => by simp [Fence.wide] at z, HRR.out.mono ?_⟩
      rintro e w4 (⟨rfl, hj4, hk4⟩ | ⟨rfl, hj4⟩)
      · have JK4 := Lib.hid hj4
        have BK4 := Lib.hid (BK.out.trans hk4)
        clear hj4 hk4 hy
        gi_wp2_with fail
        go_roundw
        case rel => exact ⟨q, v', by omega, HV', rfl, JK4, BK4⟩
        case measure => have := HV'.out; simp [intOf]; omega
      · have JX4 := Lib.hid hj4
        clear hj4 hy
        gi_wp2_with fail
        refine bodyPost_ret (results_none rfl _ _ _) rfl ?_
        exact ⟨⟨_, rfl⟩, .inr ⟨_, ⟨n - q, by have := HP.out; omega, rfl⟩, JX4.out⟩⟩

theorem backw15 (A : Option Addr) (n c : Nat) (w : World) : Calls Try.prog 31 #[.slice A n c] w fun e w' => e = .returned (.func (.func 42) #[] #[.pointer (some ⟨w.heap.size, 0, none⟩)]) ∧ w' = w.alloc (.cells #[.slice A n c] 55) := by
  have hmf := hmf15
  go_enter Try.func31, Try.ntmps31
  go_wp2_with fail
  go_ret
  exact ⟨rfl, rfl⟩

end Go.Proofs.Ytpdedeaejlkokaa
