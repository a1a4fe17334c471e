/-
  What the document's own Words and Lines answer: the same as package text.
-/
import Derived.Test.YtmlflmlgjjjmfaaDoorRef
namespace Go.Proofs.YtmlflmlgjjjmfaaDoor
open Go.RowKit

/-- What is known of the pieces behind a place, the last piece as a text of its own. -/
def AtW (c : UInt8) (s : ByteArray) (k : Nat) (P : List (List UInt8)) (t : ByteArray) : Prop := cutF c ((bl s).take k) = (P, bl t)
theorem AtW.zero (c : UInt8) (s : ByteArray) : AtW c s 0 [] ⟨#[]⟩ := by unfold AtW; rfl
theorem AtW.seam {c : UInt8} {s : ByteArray} {k : Nat} {P : List (List UInt8)} {t : ByteArray} (h : AtW c s k P t) (hp : k < s.size) (hc : s[k]'hp = c) : AtW c s (k + 1) (P ++ [bl t]) ⟨#[]⟩ := by
  unfold AtW at h ⊢
  rw [take_bl s k hp, cutF_snoc, h, hc]
  unfold step
  rw [if_pos rfl]; rfl
theorem AtW.far {c : UInt8} {s : ByteArray} {k : Nat} {P : List (List UInt8)} {t : ByteArray} (h : AtW c s k P t) (hp : k < s.size) (hc : s[k]'hp ≠ c) : AtW c s (k + 1) P (t ++ s.extract k (k + 1)) := by
  unfold AtW at h ⊢
  rw [take_bl s k hp, cutF_snoc, h]
  unfold step
  rw [if_neg hc, bl_add, bl_cut]
  congr 2
  have : k + 1 - k = 1 := by omega
  rw [this, List.drop_eq_getElem_cons (by rw [← size_bl]; exact hp)]; rfl
theorem AtW.len {c : UInt8} {s : ByteArray} {k : Nat} {P : List (List UInt8)} {t : ByteArray} (h : AtW c s k P t) : P.length ≤ k ∧ t.size ≤ k := by
  unfold AtW at h
  have h1 := cut_count c ((bl s).take k)
  have h2 := lay_cut c ((bl s).take k)
  rw [h] at h1 h2
  have h3 := List.count_le_length (a := c) (l := (bl s).take k)
  rw [List.length_take] at h3
  have h4 := congrArg List.length h2
  rw [List.length_append, List.length_take] at h4
  have h5 : P.length = _ := h1
  have h6 : _ + (bl t).length = _ := h4
  rw [← size_bl t] at h6
  omega

theorem mem_len {x : List UInt8} {xs : List (List UInt8)} (h : x ∈ xs) : x.length + 1 ≤ bulk xs := by
  obtain ⟨a, b, rfl⟩ := List.append_of_mem h
  rw [bulk_append]
  simp [bulk]; omega
theorem piece_len {x l : List UInt8} (h : x ∈ pieces l) : x.length ≤ l.length := by
  have h1 := mem_len h
  have h2 : bulk (pieces l) = l.length + 1 := by
    rw [← bulk_lay 32]
    unfold pieces
    rw [layL_append, layL_one, ← List.append_assoc, lay_cut]
    simp
  omega

set_option maxHeartbeats 2000000 in
theorem rwords_any (s : ByteArray) (w : World) (hs : s.size ≤ 100000) :
    Calls Tryd.prog 38 #[.string s] w (RowB (wordsL (bl s)) (okW (bl s)) w) := by
  obtain ⟨i0, hi, hz0, hz1, hz2⟩ := info_parts Tryd.info9
  go_enter Tryd.func38, Tryd.ntmps38
  go_wp2_with fail
  go_loopw [4, 5, 6] (fun v x i wr => ∃ (k : Nat) (P : List (List UInt8)) (t : ByteArray), k ≤ s.size ∧ i = .int .i64 k ∧ x = .string t ∧ Hid (AtW 32 s k P t) ∧ Hid (wr.ownsRow w.heap.size 9 1 v P.length (cellsOf P)) ∧ Hid (Below w.heap.size w wr)) (fun _ _ i _ => s.size - (intOf i).toNat)
  case atStart => exact ⟨0, [], ⟨#[]⟩, Nat.zero_le _, rfl, rfl, AtW.zero 32 s, World.ownsRow_nil _ _ _ _, Below.refl _ _⟩
  case round =>
    obtain ⟨k, P, t, hk, rfl, rfl, HA, HO, HB⟩ := hrel
    have hlen := HA.out.len
    have hsz := HB.out.size
    by_cases hlt : k < s.size
    · by_cases heq : s[k]'hlt = 32
      · have HA2 := Lib.hid (HA.out.seam hlt heq)
        have t1 : (((s[k]'hlt).toNat : Int) == 32) = true := by rw [heq]; rfl
        clear HA heq
        go_wp2_with (at_builtin; refine wpList_append_own _ rfl _ _ 35 rfl w.heap.size 9 i0 (.string ⟨#[]⟩) 1 16 Tryd.underlying35 hi hz0 hz1 hz2 rfl (by decide) _ _ _ rfl (HO.out.alloc _) ⟨wr.heap.size, 0, none⟩ 1 1 [.string t] rfl rfl ?c1 ?c2 ?c3 ?c4 ?c5 ?_)
        case c1 =>
          intro j u hj
          match j, hj with
          | 0, hj => simp at hj; subst hj; simp [Addr.add]
        case c2 => intro u hu; simp at hu; subst hu; rfl
        case c3 => unfold maxLen; omega
        case c4 => omega
        case c5 => simp; omega
        intro v' w2 hown2 hgrow _
        have HO4 : Hid (w2.ownsRow w.heap.size 9 1 v' (P ++ [bl t]).length (cellsOf (P ++ [bl t]))) := by
          rw [List.length_append, cellsOf_append]
          have : cellsOf [bl t] = [.string t] := by unfold cellsOf; rw [List.map_singleton, ba_bl]
          rw [this]
          exact hown2
        have HB4 : Hid (Below w.heap.size w w2) := (HB.out.alloc (by omega) _).grown hgrow (by simp; omega) (fun q hqq => (HO.out.lt _ hqq).1)
        clear hown2 hgrow HO HB
        go_wp2_with fail
        go_roundw
        case rel => exact ⟨k + 1, _, _, by omega, by go_num, rfl, HA2, HO4, HB4⟩
        case measure => simp [intOf]; omega
      · have HA2 := Lib.hid (HA.out.far hlt heq)
        have t1 : (((s[k]'hlt).toNat : Int) == 32) = false := by
          have : (s[k]'hlt).toNat ≠ 32 := fun e => heq (UInt8.toNat_inj.1 e)
          simp; omega
        have hex : (s.extract k (k + 1)).size ≤ 1 := by rw [ByteArray.size_extract]; omega
        clear HA heq
        go_wp2_with fail
        go_roundw
        case rel => exact ⟨k + 1, P, _, by omega, by go_num, rfl, HA2, HO, HB⟩
        case measure => simp [intOf]; omega
    · obtain rfl : k = s.size := by omega
      have hat := HA.out
      unfold AtW at hat
      rw [size_bl, List.take_length] at hat
      have HP : Hid (pieces (bl s) = P ++ [bl t]) := by show _ = _; unfold pieces; rw [hat]
      clear hat HA
      go_wp2_with (at_builtin; refine wpList_append_own _ rfl _ _ 35 rfl w.heap.size 9 i0 (.string ⟨#[]⟩) 1 16 Tryd.underlying35 hi hz0 hz1 hz2 rfl (by decide) _ _ _ rfl (HO.out.alloc _) ⟨wr.heap.size, 0, none⟩ 1 1 [.string t] rfl rfl ?d1 ?d2 ?d3 ?d4 ?d5 ?_)
      case d1 =>
        intro j u hj
        match j, hj with
        | 0, hj => simp at hj; subst hj; simp [Addr.add]
      case d2 => intro u hu; simp at hu; subst hu; rfl
      case d3 => unfold maxLen; omega
      case d4 => omega
      case d5 => simp; omega
      intro v' w2 hown2 hgrow _
      have HO4 : Hid (w2.ownsRow w.heap.size 9 1 v' (P.length + 1) (cellsOf (pieces (bl s)))) := by
        show World.ownsRow _ _ _ _ _ _ _
        rw [HP.out, cellsOf_append]
        have : cellsOf [bl t] = [.string t] := by unfold cellsOf; rw [List.map_singleton, ba_bl]
        rw [this]
        exact hown2
      have HB4 : Hid (Below w.heap.size w w2) := (HB.out.alloc (by omega) _).grown hgrow (by simp; omega) (fun q hqq => (HO.out.lt _ hqq).1)
      clear hown2 hgrow HO HB
      obtain ⟨A2, c2, rfl, hn2, hR2⟩ := own_row HO4.out
      obtain ⟨n, hnn⟩ : ∃ n, n = P.length + 1 := ⟨_, rfl⟩
      have hn5 : n ≤ 100001 := by omega
      have hcap : n ≤ c2 := by rw [hnn]; exact own_cap HO4.out
      have LX : Hid (n = (pieces (bl s)).length) := by show _ = _; rw [hnn, hn2]
      rw [← hnn]
      have HR2 := Lib.hid hR2
      clear hR2 hn2 HO4 HP hnn hlen hsz
      go_wp2_with fail
      go_loop [7] (fun i => ∃ j : Nat, j ≤ n ∧ i = .int .i64 j ∧ Hid (((pieces (bl s)).take j).all wordB = true)) (fun i => n - (intOf i).toNat)
      case atStart => exact ⟨0, Nat.zero_le _, rfl, rfl⟩
      case round =>
        obtain ⟨j, hj, rfl, HW⟩ := hrel
        by_cases hjn : j < n
        · obtain ⟨b1, o1, rfl, l1, c1⟩ := HR2.out (by rw [← LX.out]; omega)
          obtain ⟨x, HXk⟩ : ∃ x : List UInt8, Hid (x = (pieces (bl s)).getD j []) := ⟨_, rfl⟩
          obtain ⟨y, hy⟩ : ∃ y, y = ba x := ⟨_, rfl⟩
          have d1 : w2.cell? ⟨b1, o1 + j, none⟩ = some (.string y) := by
            rw [c1 j (by rw [← LX.out]; exact hjn), hy, HXk.out]
          have hmem : x ∈ pieces (bl s) := by rw [HXk.out]; exact List.mem_of_getElem? (getD_get (by rw [← LX.out]; exact hjn))
          have hyl : y.size ≤ 1000000 := by
            rw [hy, ba_size]
            have h1 := piece_len hmem
            rw [← size_bl] at h1
            omega
          have HY : Hid (bl y = x) := by show _ = _; rw [hy, bl_ba]
          have HM := Lib.hid hmem
          clear c1 hy hmem
          go_wp2_with fail
          refine (word_any y w2 hyl).mono ?_
          rintro e w3 ⟨rfl, rfl⟩
          rw [HY.out]
          cases hw : wordB x
          · have HK : Hid (okW (bl s) = false) := by
              show _ = false
              rw [ok_words]; exact words_no HM.out hw
            have HE := Lib.hid (words_not HK.out)
            clear hw
            go_wp2_with fail
            go_ret2
            exact ⟨none, 0, 0, by rw [HK.out]; rfl, by rw [HE.out]; rfl, by rw [HE.out]; exact Rd.nil _ _, HB4.out, Nat.le_refl _⟩
          · have HW2 : Hid (((pieces (bl s)).take (j + 1)).all wordB = true) := by
              show _ = true
              rw [take_getD (by rw [← LX.out]; exact hjn), List.all_append, HW.out, ← HXk.out]; simp [hw]
            clear hw
            go_wp2_with fail
            go_round
            case rel => exact ⟨j + 1, by omega, by go_num, HW2⟩
            case measure => simp [intOf]; omega
        · obtain rfl : j = n := by omega
          have hall := HW.out
          rw [LX.out, List.take_length] at hall
          have HK : Hid (okW (bl s) = true) := hall
          have HE := Lib.hid (words_yes HK.out)
          clear hall HW
          go_wp2_with fail
          go_ret2
          exact ⟨A2, c2, j, by rw [HK.out]; rfl, by rw [HE.out]; exact LX.out, by rw [HE.out]; exact HR2.out, HB4.out, hcap⟩

end Go.Proofs.YtmlflmlgjjjmfaaDoor
