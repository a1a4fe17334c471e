/-
  What the document's own Lines, Number and Get answer: the same as package text.
-/
import Derived.Test.YtmlflmlgjjjmfaaDoorRef2
namespace Go.Proofs.YtmlflmlgjjjmfaaDoor
open Go.RowKit

theorem one_byte (s : ByteArray) (k : Nat) (h : k < s.size) (c : UInt8) (hc : s[k]'h ≠ c) : c ∉ ((bl s).drop k).take 1 := by
  have e : ((bl s).drop k).take 1 = [s[k]'h] := by
    rw [List.drop_eq_getElem_cons (by rw [← size_bl]; exact h)]; rfl
  rw [e]
  intro hm
  exact hc (List.mem_singleton.1 hm).symm

/-- What a row of texts, with its room, and a text come to. -/
def RowK (xs : List (List UInt8)) (t : List UInt8) (w : World) (e : Ending) (w' : World) : Prop :=
  ∃ (A : Option Addr) (k n : Nat), e = .returned (.tuple #[.slice A n k, .string (ba t)]) ∧ n = xs.length ∧ Rd w' A xs ∧ Below w.heap.size w w' ∧ n ≤ k

set_option maxHeartbeats 2000000 in
theorem rlines_any (s : ByteArray) (w : World) (hs : s.size ≤ 2000000) :
    Calls Tryd.prog 18 #[.string s] w (RowK (cutF 10 (bl s)).1 (cutF 10 (bl s)).2 w) := by
  obtain ⟨i0, hi, hz0, hz1, hz2⟩ := info_parts Tryd.info9
  go_enter Tryd.func18, Tryd.ntmps18
  go_wp2_with fail
  go_loopw [4, 5, 6] (fun v f i wr => ∃ (k g : Nat) (P : List (List UInt8)), g ≤ k ∧ k ≤ s.size ∧ i = .int .i64 k ∧ f = .int .i64 g ∧ Hid (At 10 s k g P) ∧ Hid (wr.ownsRow w.heap.size 9 1 v P.length (cellsOf P)) ∧ Hid (Below w.heap.size w wr)) (fun _ _ i _ => s.size - (intOf i).toNat)
  case atStart => exact ⟨0, 0, [], Nat.le_refl _, Nat.zero_le _, rfl, rfl, At.zero 10 s, World.ownsRow_nil _ _ _ _, Below.refl _ _⟩
  case round =>
    obtain ⟨k, g, P, hgk, hk, rfl, rfl, HA, HO, HB⟩ := hrel
    have hlen := HA.out.len
    have hsz := HB.out.size
    by_cases hlt : k < s.size
    · by_cases heq : s[k]'hlt = 10
      · have HA2 := Lib.hid (HA.out.seam hlt heq)
        have t1 : (((s[k]'hlt).toNat : Int) == 10) = true := by rw [heq]; rfl
        clear HA heq
        go_wp2_with (at_builtin; refine wpList_append_own _ rfl _ _ 35 rfl w.heap.size 9 i0 (.string ⟨#[]⟩) 1 16 Tryd.underlying35 hi hz0 hz1 hz2 rfl (by decide) _ _ _ rfl (HO.out.alloc _) ⟨wr.heap.size, 0, none⟩ 1 1 [.string (s.extract g k)] rfl rfl ?c1 ?c2 ?c3 ?c4 ?c5 ?_)
        case c1 =>
          intro j u hj
          match j, hj with
          | 0, hj => simp at hj; subst hj; simp [Addr.add]
        case c2 => intro u hu; simp at hu; subst hu; rfl
        case c3 => unfold maxLen; omega
        case c4 => omega
        case c5 => simp; omega
        intro v' w2 hown2 hgrow _
        have HO4 : Hid (w2.ownsRow w.heap.size 9 1 v' (P ++ [((bl s).take k).drop g]).length (cellsOf (P ++ [((bl s).take k).drop g]))) := by
          rw [List.length_append, cellsOf_append]
          have : cellsOf [((bl s).take k).drop g] = [.string (s.extract g k)] := by rw [piece_eq s g k]; rfl
          rw [this]
          exact hown2
        have HB4 : Hid (Below w.heap.size w w2) := (HB.out.alloc (by omega) _).grown hgrow (by simp; omega) (fun q hqq => (HO.out.lt _ hqq).1)
        clear hown2 hgrow HO HB
        go_wp2_with fail
        go_roundw
        case rel => exact ⟨k + 1, k + 1, _, Nat.le_refl _, by omega, by go_num, by go_num, HA2, HO4, HB4⟩
        case measure => simp [intOf]; omega
      · have HA2 := Lib.hid (HA.out.far (w := 1) hgk hk (one_byte s k hlt 10 heq))
        have t1 : (((s[k]'hlt).toNat : Int) == 10) = false := by
          have : (s[k]'hlt).toNat ≠ 10 := fun e => heq (UInt8.toNat_inj.1 e)
          simp; omega
        clear HA heq
        go_wp2_with fail
        go_roundw
        case rel => exact ⟨k + 1, g, P, by omega, by omega, by go_num, rfl, HA2, HO, HB⟩
        case measure => simp [intOf]; omega
    · obtain rfl : k = s.size := by omega
      have hat := HA.out
      unfold At at hat
      rw [size_bl, List.take_length] at hat
      obtain ⟨P1, P2⟩ : P = (cutF 10 (bl s)).1 ∧ (bl s).drop g = (cutF 10 (bl s)).2 := by rw [hat]; exact ⟨rfl, rfl⟩
      have HP2 := Lib.hid P2; clear P2
      have HO1 := HO.out
      rw [P1] at HO1
      obtain ⟨A, cp, rfl, hn, hR⟩ := own_row HO1
      have HR := Lib.hid hR
      have HCap := Lib.hid (own_cap HO1)
      clear HO1 hn hR HO HA hat P1
      have p0 : (0 : Int) ≤ (g : Int) := Int.natCast_nonneg _
      have p1 : (g : Int) ≤ (s.size : Int) := by omega
      go_wp2_with fail
      go_quiet (fail)
      go_wp2_with fail
      go_ret2
      refine ⟨A, cp, _, ?_, rfl, HR.out.below (below_drewN (Below.refl _ _) _), below_drewN HB.out _, HCap.out⟩
      have e : s.extract g s.size = ba (cutF 10 (bl s)).2 := by rw [piece_eq, size_bl, List.take_length, HP2.out]
      rw [← e]; rfl

theorem conv_nat (w : World) (m : Nat) : (convert 75 9 (.slice (some ⟨w.heap.size, 0, none⟩) 1 1)).run Tryd.prog (w.alloc (.cells #[.int .u8 (48 + (m : Int) % 10)] 5)) = .ok (.string (ba [dgt m])) (w.alloc (.cells #[.int .u8 (48 + (m : Int) % 10)] 5)) := by
  have h := run_convert_bytes_back (P := Tryd.prog) (w.alloc (.cells #[.int .u8 ((dgt m).toNat : Int)] 5)) 75 9 5 ⟨w.heap.size, 0, none⟩ 1 [dgt m] Tryd.underlying75 Tryd.underlying5 Tryd.underlying9 (fun j hj => by
    have : j = 0 := by simpa using hj
    subst this
    simp [Addr.add])
  have e : ((dgt m).toNat : Int) = 48 + (m : Int) % 10 := by rw [dgt_nat]; omega
  rw [e] at h
  exact h

def decP (m : Nat) : List UInt8 := if m = 0 then [] else dec m
theorem decP_pos {m : Nat} (h : 0 < m) : decP m = decP (m / 10) ++ [dgt m] := by
  unfold decP
  rw [if_neg (by omega)]
  by_cases h9 : m < 10
  · rw [if_pos (by omega), dec_small h9]; rfl
  · rw [if_neg (by omega), dec_big (by omega)]
theorem decP_dec (m : Nat) : decP (m / 10) ++ [dgt m] = dec m := by
  by_cases h9 : m < 10
  · rw [dec_small h9]; unfold decP; rw [if_pos (by omega)]; rfl
  · rw [← decP_pos (by omega)]; unfold decP; rw [if_neg (by omega)]

set_option maxHeartbeats 1000000 in
theorem rnumber_in (N : Nat) (w : World) (h1 : N ≤ 999999) :
    Calls Tryd.prog 32 #[.int .i64 (N : Int)] w fun e w' => e = .returned (.string (ba (dec N))) ∧ Below w.heap.size w w' := by
  have d0 : decide ((N : Int) < 0) = false := by simp
  have d1 : decide (999999 < (N : Int)) = false := decide_eq_false (by omega)
  have d2 : decide (999999 < N) = false := decide_eq_false (by omega)
  have hcv := conv_nat w N
  obtain ⟨t0, ht0⟩ : ∃ t, t = ba [dgt N] := ⟨_, rfl⟩
  rw [← ht0] at hcv
  have HD : Hid (decP (N / 10) ++ bl t0 = dec N) := by show _ = _; rw [ht0, bl_ba]; exact decP_dec N
  have hL : (dec N).length ≤ 6 := dec_len (k := 5) (by omega)
  clear ht0
  go_enter Tryd.func32, Tryd.ntmps32
  go_wp2_with fail
  go_loopw [0, 3] (fun nv sv wr => ∃ (m : Nat) (t : ByteArray), m ≤ 999999 ∧ nv = .int .i64 m ∧ sv = .string t ∧ Hid (decP m ++ bl t = dec N) ∧ Hid (Below w.heap.size w wr)) (fun nv _ _ => (intOf nv).toNat)
  case atStart => exact ⟨N / 10, t0, by omega, congrArg (Value.int .i64) (by omega), rfl, HD, (Below.refl _ _).alloc (Nat.le_refl _) _⟩
  case round =>
    obtain ⟨m, t, hm, rfl, rfl, HE, HB⟩ := hrel
    have hts : t.size ≤ 6 := by
      have := congrArg List.length HE.out
      rw [List.length_append, ← size_bl] at this
      omega
    by_cases m0 : 0 < m
    · have e0 : decide (0 < (m : Int)) = true := decide_eq_true (by omega)
      have e1 : decide (0 < m) = true := decide_eq_true m0
      have hcv2 := conv_nat wr m
      obtain ⟨t2, ht2⟩ : ∃ t, t = ba [dgt m] := ⟨_, rfl⟩
      rw [← ht2] at hcv2
      have ht2s : t2.size ≤ 1 := by rw [ht2, ba_size]; simp
      have HE2 : Hid (decP (m / 10) ++ bl (t2 ++ t) = dec N) := by
        show _ = _
        rw [bl_add, ht2, bl_ba, ← List.append_assoc, ← decP_pos m0]; exact HE.out
      have HB2 := Lib.hid (HB.out.alloc HB.out.size (.cells #[.int .u8 (48 + (m : Int) % 10)] 5))
      clear ht2 HE hcv HD HB
      go_wp2_with fail
      go_roundw
      case rel => exact ⟨m / 10, _, by omega, congrArg (Value.int .i64) (by omega), rfl, HE2, HB2⟩
      case measure => simp [intOf]; omega
    · have e0 : decide (0 < (m : Int)) = false := decide_eq_false (by omega)
      have e1 : decide (0 < m) = false := decide_eq_false m0
      have HF : Hid (t = ba (dec N)) := by
        show _ = _
        rw [← HE.out]
        unfold decP
        rw [if_pos (by omega), List.nil_append, ba_bl]
      clear HE hcv HD
      go_wp2_with fail
      go_ret
      exact ⟨by rw [← HF.out]; rfl, HB.out⟩

set_option maxHeartbeats 400000 in
theorem rnumber_any (n : Int) (w : World) :
    Calls Tryd.prog 32 #[.int .i64 n] w fun e w' => e = .returned (.string (ba (numL n))) ∧ Below w.heap.size w w' := by
  by_cases h0 : 0 ≤ n
  · by_cases h1 : n ≤ 999999
    · obtain ⟨N, rfl⟩ : ∃ N : Nat, n = N := ⟨n.toNat, by omega⟩
      rw [numL_in h0 h1]
      exact rnumber_in N w (by omega)
    · have d0 : decide (n < 0) = false := by simpa using h0
      have d1 : decide (999999 < n) = true := by simpa using h1
      have HN := Lib.hid (numL_out (n := n) (by omega))
      go_enter Tryd.func32, Tryd.ntmps32
      go_wp2_with fail
      go_ret
      exact ⟨by rw [HN.out]; rfl, Below.refl _ _⟩
  · have d0 : decide (n < 0) = true := by simpa using h0
    have HN := Lib.hid (numL_out (n := n) (by omega))
    go_enter Tryd.func32, Tryd.ntmps32
    go_wp2_with fail
    go_ret
    exact ⟨by rw [HN.out]; rfl, Below.refl _ _⟩

/-- What the document's Get answers, the world as it was. -/
def RGet (s : ByteArray) (w : World) (e : Ending) (w' : World) : Prop := e = .returned (.tuple #[.int .i64 (getN (bl s)), .bool (getB (bl s))]) ∧ w = w'

theorem head_get (s : ByteArray) (h : 0 < s.size) : (bl s).head? = some (s[0]'h) := by
  have := bl_get s 0 h
  rw [← List.head?_eq_getElem?] at this
  exact this

set_option maxHeartbeats 1000000 in
theorem rget_in (s : ByteArray) (w : World) (h1 : 1 ≤ s.size) (h6 : s.size ≤ 6) (hh : 1 < s.size → (bl s).head? ≠ some 48) :
    Calls Tryd.prog 48 #[.string s] w (RGet s w) := by
  have a1 : decide ((s.size : Int) < 1) = false := decide_eq_false (by omega)
  have a2 : decide (6 < (s.size : Int)) = false := decide_eq_false (by omega)
  have a3 : decide (s.size < 1) = false := decide_eq_false (by omega)
  have a4 : decide (6 < s.size) = false := decide_eq_false (by omega)
  have hlt0 : 0 < s.size := h1
  have HH := Lib.hid hh
  have cases2 : (decide (1 < (s.size : Int)) = false ∧ decide (1 < s.size) = false) ∨ (decide (1 < (s.size : Int)) = true ∧ decide (1 < s.size) = true ∧ (((s[0]'hlt0).toNat : Int) == 48) = false) := by
    by_cases h2 : 1 < s.size
    · refine .inr ⟨decide_eq_true (by omega), decide_eq_true h2, ?_⟩
      have h3 := hh h2
      rw [head_get s hlt0] at h3
      have h4 : (s[0]'hlt0).toNat ≠ 48 := fun e => h3 (congrArg some (UInt8.toNat_inj.1 e))
      simp; omega
    · exact .inl ⟨decide_eq_false (by omega), decide_eq_false h2⟩
  clear hh
  rcases cases2 with ⟨b1, b2⟩ | ⟨b1, b2, b3⟩
  all_goals
    go_enter Tryd.func48, Tryd.ntmps48
    go_wp2_with fail
    go_loop [4, 5] (fun v i => ∃ k n : Nat, k ≤ s.size ∧ i = .int .i64 k ∧ v = .int .i64 n ∧ Hid (n = valL ((bl s).take k)) ∧ Hid (∀ b ∈ (bl s).take k, isDig b = true)) (fun _ i => s.size - (intOf i).toNat)
    case atStart => exact ⟨0, 0, Nat.zero_le _, rfl, rfl, rfl, fun b hb => by simp at hb⟩
    case round =>
      obtain ⟨k, n, hk, rfl, rfl, HV, HD⟩ := hrel
      have hn : n ≤ 999999 := by
        have q1 := val_lt ((bl s).take k) HD.out
        rw [← HV.out] at q1
        have q2 : ((bl s).take k).length ≤ 6 := by rw [List.length_take]; omega
        have q3 : 10 ^ ((bl s).take k).length ≤ 10 ^ 6 := Nat.pow_le_pow_right (by omega) q2
        omega
      by_cases hlt : k < s.size
      · have hmem : (s[k]'hlt) ∈ bl s := List.mem_of_getElem? (bl_get s k hlt)
        cases hd : isDig (s[k]'hlt)
        · have HG : Hid (getB (bl s) = false) := by
            show _ = false
            cases hq : getB (bl s)
            · rfl
            · have := getB_digs hq _ hmem
              rw [hd] at this; cases this
          have HN := Lib.hid (getN_no HG.out)
          have hnd : ¬ (48 ≤ (s[k]'hlt).toNat ∧ (s[k]'hlt).toNat ≤ 57) := fun h => by rw [dig_of_nat h] at hd; cases hd
          clear hd hmem HV HD
          by_cases r1 : (s[k]'hlt).toNat < 48
          · have c1 : decide (((s[k]'hlt).toNat : Int) < 48) = true := decide_eq_true (by omega)
            have c2 : decide ((s[k]'hlt).toNat < 48) = true := decide_eq_true r1
            clear hnd r1
            go_wp2_with fail
            go_ret2
            exact ⟨ret_two HN.out.symm HG.out.symm, rfl⟩
          · have c1 : decide (((s[k]'hlt).toNat : Int) < 48) = false := decide_eq_false (by omega)
            have c2 : decide ((s[k]'hlt).toNat < 48) = false := decide_eq_false r1
            have c3 : decide (57 < ((s[k]'hlt).toNat : Int)) = true := decide_eq_true (by omega)
            have c4 : decide (57 < (s[k]'hlt).toNat) = true := decide_eq_true (by omega)
            clear hnd r1
            go_wp2_with fail
            go_ret2
            exact ⟨ret_two HN.out.symm HG.out.symm, rfl⟩
        · have hdn := dig_nat hd
          have HS : Hid (10 * n + ((s[k]'hlt).toNat - 48) = valL ((bl s).take (k + 1))) := by
            show _ = _
            rw [take_bl s k hlt, val_snoc, HV.out]
          have HD2 : Hid (∀ b ∈ (bl s).take (k + 1), isDig b = true) := fun b hb => by
            rw [take_bl s k hlt] at hb
            rcases List.mem_append.1 hb with q | q
            · exact HD.out b q
            · rw [List.mem_singleton.1 q]; exact hd
          have c1 : decide (((s[k]'hlt).toNat : Int) < 48) = false := decide_eq_false (by omega)
          have c2 : decide ((s[k]'hlt).toNat < 48) = false := decide_eq_false (by omega)
          have c3 : decide (57 < ((s[k]'hlt).toNat : Int)) = false := decide_eq_false (by omega)
          have c4 : decide (57 < (s[k]'hlt).toNat) = false := decide_eq_false (by omega)
          clear hd hmem HV HD
          go_wp2_with fail
          go_round
          case rel => exact ⟨k + 1, 10 * n + ((s[k]'hlt).toNat - 48), by omega, by go_num, congrArg (Value.int .i64) (by omega), HS, HD2⟩
          case measure => simp [intOf]; omega
      · obtain rfl : k = s.size := by omega
        have hv := HV.out
        have hd := HD.out
        rw [size_bl, List.take_length] at hv hd
        have HG : Hid (getB (bl s) = true) := getB_of (by rw [← size_bl]; exact h1) (by rw [← size_bl]; exact h6) (by rw [← size_bl]; exact HH.out) hd
        have HN : Hid ((n : Int) = getN (bl s)) := by show _ = _; rw [getN_yes HG.out, hv]
        clear hv hd HV HD
        go_wp2_with fail
        go_ret2
        exact ⟨ret_two HN.out HG.out.symm, rfl⟩

set_option maxHeartbeats 400000 in
theorem rget_any (s : ByteArray) (w : World) : Calls Tryd.prog 48 #[.string s] w (RGet s w) := by
  have no : ∀ h : ¬ (1 ≤ s.size ∧ s.size ≤ 6 ∧ (1 < s.size → (bl s).head? ≠ some 48)), getB (bl s) = false := fun h => by
    cases hq : getB (bl s)
    · rfl
    · have := getB_len hq
      rw [← size_bl] at this
      exact absurd this h
  by_cases h1 : 1 ≤ s.size
  · have hlt0 : 0 < s.size := h1
    have a1 : decide ((s.size : Int) < 1) = false := decide_eq_false (by omega)
    have a3 : decide (s.size < 1) = false := decide_eq_false (by omega)
    by_cases h6 : s.size ≤ 6
    · by_cases hh : 1 < s.size → (bl s).head? ≠ some 48
      · exact rget_in s w h1 h6 hh
      · have HG := Lib.hid (no (fun h => hh h.2.2))
        have HN := Lib.hid (getN_no HG.out)
        have hb : 1 < s.size := by
          rcases Nat.lt_or_ge 1 s.size with q | q
          · exact q
          · exact absurd (fun e => absurd e (by omega)) hh
        have h48 : s[0]'hlt0 = 48 := by
          have : ¬ ((bl s).head? ≠ some 48) := fun q => hh (fun _ => q)
          rw [head_get s hlt0] at this
          exact Option.some.inj (Classical.not_not.1 this)
        have a2 : decide (6 < (s.size : Int)) = false := decide_eq_false (by omega)
        have a4 : decide (6 < s.size) = false := decide_eq_false (by omega)
        have b1 : decide (1 < (s.size : Int)) = true := decide_eq_true (by omega)
        have b2 : decide (1 < s.size) = true := decide_eq_true hb
        have b3 : (((s[0]'hlt0).toNat : Int) == 48) = true := by rw [h48]; rfl
        clear no hh h48 hb h6 h1
        go_enter Tryd.func48, Tryd.ntmps48
        go_wp2_with fail
        go_ret2
        exact ⟨ret_two HN.out.symm HG.out.symm, rfl⟩
    · have HG := Lib.hid (no (fun h => h6 h.2.1))
      have HN := Lib.hid (getN_no HG.out)
      have a2 : decide (6 < (s.size : Int)) = true := decide_eq_true (by omega)
      have a4 : decide (6 < s.size) = true := decide_eq_true (by omega)
      clear no h6 h1
      go_enter Tryd.func48, Tryd.ntmps48
      go_wp2_with fail
      go_ret2
      exact ⟨ret_two HN.out.symm HG.out.symm, rfl⟩
  · have HG := Lib.hid (no (fun h => h1 h.1))
    have HN := Lib.hid (getN_no HG.out)
    have a1 : decide ((s.size : Int) < 1) = true := decide_eq_true (by omega)
    have a3 : decide (s.size < 1) = true := decide_eq_true (by omega)
    clear no h1
    go_enter Tryd.func48, Tryd.ntmps48
    go_wp2_with fail
    go_ret2
    exact ⟨ret_two HN.out.symm HG.out.symm, rfl⟩

end Go.Proofs.YtmlflmlgjjjmfaaDoor
