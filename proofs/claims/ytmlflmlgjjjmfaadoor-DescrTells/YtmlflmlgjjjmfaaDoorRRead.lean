/-
  What the document's own numbers, read and one answer of lines.
-/
import Derived.Test.YtmlflmlgjjjmfaaDoorRForm2
namespace Go.Proofs.YtmlflmlgjjjmfaaDoor
open Go.RowKit

theorem Tryd.info3 : (Tryd.prog.info? 3).map (fun i => (i.zero, i.size, i.bytes)) = some (some (.int .i64 0), 1, 8) := by kernel_rfl
/-- A slice's address, behind which the numbers lie. -/
def Ri (w : World) (A : Option Addr) (xs : List Int) : Prop :=
  0 < xs.length → ∃ b off, A = some ⟨b, off, none⟩ ∧ b < w.heap.size ∧ ∀ j, j < xs.length → w.cell? ⟨b, off + j, none⟩ = some (.int .i64 (xs.getD j 0))
def icells (xs : List Int) : List Value := xs.map fun n => Value.int .i64 n
theorem Ri.nil (w : World) (A : Option Addr) : Ri w A [] := fun h => absurd h (by simp)
theorem Ri.below {w w' : World} {A : Option Addr} {us : List Int} (h : Ri w A us) (hb : Below w.heap.size w w') : Ri w' A us := fun h0 => by
  obtain ⟨b, off, e, hlt, hc⟩ := h h0
  exact ⟨b, off, e, Nat.lt_of_lt_of_le hlt hb.size, fun j hj => (hb.cell (p := ⟨b, off + j, none⟩) hlt).trans (hc j hj)⟩
theorem own_ri {w : World} {base n : Nat} {v : Value} {us : List Int} (h : w.ownsRow base 3 1 v n (icells us)) : ∃ A c, v = .slice A n c ∧ n = us.length ∧ Ri w A us := by
  have hl := h.1
  simp only [icells, List.length_map, Nat.mul_one] at hl
  rcases h.2 with ⟨hv, hn⟩ | ⟨g, cp, cur, hv, _, hh, _⟩
  · subst hv
    subst hn
    exact ⟨none, 0, rfl, by omega, fun h0 => absurd h0 (by omega)⟩
  · subst hv
    refine ⟨_, cp, rfl, by omega, fun h0 => ⟨g, 0, rfl, (Array.getElem?_eq_some_iff.1 hh).1, fun j hj => ?_⟩⟩
    have hc := h.cells (g := g) rfl j (Value.int .i64 (us.getD j 0)) (by
      unfold icells
      rw [List.getElem?_map, List.getElem?_eq_getElem hj]
      simp [List.getD_eq_getElem?_getD, hj])
    rw [plain_add] at hc
    exact hc

def numsR (ws : List (List UInt8)) : List Int := if ws.all getB then ws.map getN else []
theorem numsR_yes {ws : List (List UInt8)} (h : ws.all getB = true) : numsR ws = ws.map getN := by unfold numsR; rw [if_pos h]
theorem numsR_no {ws : List (List UInt8)} (h : ws.all getB = false) : numsR ws = [] := by unfold numsR; rw [h]; rfl
def NumsR (ws : List (List UInt8)) (w : World) (e : Ending) (w' : World) : Prop :=
  ∃ (A : Option Addr) (k n : Nat), e = .returned (.tuple #[.slice A n k, .bool (ws.all getB)]) ∧ n = (numsR ws).length ∧ Ri w' A (numsR ws) ∧ Below w.heap.size w w'

set_option maxHeartbeats 2000000 in
theorem rnumbers_any (A : Option Addr) (cA n : Nat) (ws : List (List UInt8)) (w : World) (hx : Rd w A ws) (ln : n = ws.length) (hn : n ≤ 1000000) :
    Calls Tryd.prog 39 #[.slice A n cA] w (NumsR ws w) := by
  obtain ⟨i0, hi, hz0, hz1, hz2⟩ := info_parts Tryd.info3
  have HX := Lib.hid hx; have LX := Lib.hid ln; clear hx ln
  go_enter Tryd.func39, Tryd.ntmps39
  go_wp2_with fail
  go_loopw [4, 5] (fun v i wr => ∃ k : Nat, k ≤ n ∧ i = .int .i64 k ∧ Hid ((ws.take k).all getB = true) ∧ Hid (wr.ownsRow w.heap.size 3 1 v k (icells ((ws.take k).map getN))) ∧ Hid (Below w.heap.size w wr)) (fun _ i _ => n - (intOf i).toNat)
  case atStart => exact ⟨0, Nat.zero_le _, rfl, rfl, World.ownsRow_nil _ _ _ _, Below.refl _ _⟩
  case round =>
    obtain ⟨k, hk, rfl, HA, HO, HB⟩ := hrel
    by_cases hlt : k < n
    · have hkw : k < ws.length := by rw [← LX.out]; exact hlt
      obtain ⟨b1, o1, rfl, l1, c1⟩ := HX.out (by omega)
      obtain ⟨x, hxe⟩ : ∃ x : List UInt8, x = ws.getD k [] := ⟨_, rfl⟩
      have d1 : wr.cell? ⟨b1, o1 + k, none⟩ = some (.string (ba x)) := by
        rw [HB.out.cell (p := ⟨b1, o1 + k, none⟩) l1, c1 k hkw, hxe]
      have HXe : Hid (ws[k]? = some x) := by show _ = _; rw [hxe]; exact get_some hkw
      clear c1 hxe
      go_wp2_with fail
      refine (rget_any (ba x) wr).mono ?_
      rintro e w1 ⟨rfl, rfl⟩
      rw [bl_ba]
      have HB1 := Lib.hid HB.out
      have HO1 := Lib.hid HO.out
      have hs1 := HB1.out.size
      clear d1 HB HO
      cases hg : getB x
      · have HW := Lib.hid (all_no HXe.out hg)
        clear hg
        go_wp2_with fail
        go_ret2
        exact ⟨none, 0, 0, by rw [HW.out]; rfl, by rw [numsR_no HW.out]; rfl, by rw [numsR_no HW.out]; exact Ri.nil _ _, HB1.out⟩
      · have HA2 : Hid ((ws.take (k + 1)).all getB = true) := by
          show _ = true
          rw [take_get HXe.out, List.all_append, HA.out]; simp [hg]
        obtain ⟨y, hy⟩ : ∃ y, y = getN x := ⟨_, rfl⟩
        have HY := Lib.hid hy
        rw [← hy]
        clear hg hy
        go_wp2_with (at_builtin; refine wpList_append_own _ rfl _ _ 48 rfl w.heap.size 3 i0 (.int .i64 0) 1 8 Tryd.underlying48 hi hz0 hz1 hz2 rfl (by decide) _ _ _ rfl (HO1.out.alloc _) ⟨wr.heap.size, 0, none⟩ 1 1 [.int .i64 y] rfl rfl ?c1 ?c2 ?c3 ?c4 ?c5 ?_)
        case c1 =>
          intro j u hj
          match j, hj with
          | 0, hj => simp at hj; subst hj; simp [Addr.add]
        case c2 => intro u hu; simp at hu; subst hu; rfl
        case c3 => unfold maxLen; omega
        case c4 => omega
        case c5 => simp; omega
        intro v' w2 hown2 hgrow _
        have HO4 : Hid (w2.ownsRow w.heap.size 3 1 v' (k + 1) (icells ((ws.take (k + 1)).map getN))) := by
          show w2.ownsRow _ _ _ _ _ _
          rw [take_get HXe.out, List.map_append]
          have : icells ((ws.take k).map getN ++ [x].map getN) = icells ((ws.take k).map getN) ++ [.int .i64 y] := by simp [icells, HY.out]
          rw [this]
          first | exact hown2 | (rw [List.map_take]; exact hown2)
        have HB4 : Hid (Below w.heap.size w w2) := (HB1.out.alloc (by omega) _).grown hgrow (by simp; omega) (fun q hqq => (HO1.out.lt _ hqq).1)
        clear hown2 hgrow HO1 HB1
        go_wp2_with fail
        go_roundw
        case rel => exact ⟨k + 1, by omega, by go_num, HA2, HO4, HB4⟩
        case measure => simp [intOf]; omega
    · obtain rfl : k = n := by omega
      have hall := HA.out
      have hO := HO.out
      have hk2 : ws.take k = ws := by rw [LX.out]; exact List.take_length
      rw [hk2] at hall hO
      obtain ⟨A2, c2, rfl, hn2, hR2⟩ := own_ri hO
      have HW := Lib.hid hall
      have HR := Lib.hid hR2
      have HN := Lib.hid hn2
      clear hall hO hk2 hn2 hR2 HO
      go_wp2_with fail
      go_ret2
      exact ⟨A2, c2, k, by rw [HW.out]; rfl, by rw [numsR_yes HW.out]; exact HN.out, by rw [numsR_yes HW.out]; exact HR.out, HB.out⟩

/-- What a line's first word, and numbers, come to. -/
def ReadR (l : List UInt8) (w : World) (e : Ending) (w' : World) : Prop :=
  ∃ (t : ByteArray) (A : Option Addr) (k n : Nat) (b : Bool), e = .returned (.tuple #[.string t, .slice A n k, .bool b]) ∧ b = (okW l && (tlW l).all getB) ∧ (b = true → bl t = hdW l ∧ n = (tlW l).length ∧ Ri w' A ((tlW l).map getN)) ∧ Below w.heap.size w w'

set_option maxHeartbeats 2000000 in
theorem rread_any (s : ByteArray) (w : World) (hs : s.size ≤ 100000) : Calls Tryd.prog 22 #[.string s] w (ReadR (bl s) w) := by
  go_enter Tryd.func22, Tryd.ntmps22
  go_wp2_with fail
  refine (rwords_any s w hs).mono ?_
  rintro e w1 ⟨A, cap, m, rfl, hm, hR, hb, hcap⟩
  have HB := Lib.hid hb; have HR := Lib.hid hR; have HM := Lib.hid hm
  clear hb hR hm
  cases hok : okW (bl s)
  · have HK := Lib.hid hok
    clear hok
    go_wp2_with fail
    refine bodyPost_ret (v := .tuple #[.string ⟨#[]⟩, .slice none 0 0, .bool false]) (by simp [results, Tryd.results22, go_sem]) rfl ⟨⟨#[]⟩, none, 0, 0, false, rfl, by rw [HK.out]; rfl, fun h => absurd h (by decide), HB.out⟩
  · have h1 : 1 ≤ m := by rw [HM.out]; exact words_len hok
    have hm2 : m ≤ 1000000 := by
      rw [HM.out, words_yes hok]
      have := pieces_len (bl s)
      rw [← size_bl] at this
      omega
    obtain ⟨b1, o1, rfl, l1, q⟩ := HR.out (by rw [← HM.out]; omega)
    obtain ⟨t, ht⟩ : ∃ t, t = ba (hdW (bl s)) := ⟨_, rfl⟩
    have c1 : w1.cell? ⟨b1, o1, none⟩ = some (.string t) := by
      rw [ht]; exact q 0 (by rw [← HM.out]; omega)
    have HT := Lib.hid ht
    have HOK := Lib.hid hok
    clear q hok ht
    obtain ⟨A2, c2, hsl, hR2⟩ := cut_words b1 o1 m cap h1 hcap hm2
    have HR2 := Lib.hid (hR2 w1 _ HR.out HM.out.symm)
    clear hR2
    go_wp2_with fail
    refine (rnumbers_any A2 c2 (m - 1) (tlW (bl s)) w1 HR2.out (by unfold tlW; rw [List.length_drop, ← HM.out]) (by omega)).mono ?_
    rintro e w2 ⟨A3, k3, n3, rfl, hn3, hR3, hb3⟩
    have c2' : w2.cell? ⟨b1, o1, none⟩ = some (.string t) := (hb3.cell (p := ⟨b1, o1, none⟩) l1).trans c1
    have HB3 := Lib.hid (HB.out.trans (hb3.mono HB.out.size))
    have HN3 := Lib.hid hn3; have HR3 := Lib.hid hR3
    clear hb3 hn3 hR3 hsl c1
    go_wp2_with fail
    refine bodyPost_ret (v := .tuple #[.string t, .slice A3 n3 k3, .bool ((tlW (bl s)).all getB)]) (by simp [results, Tryd.results22, go_sem]) rfl ⟨t, A3, k3, n3, _, rfl, by rw [HOK.out]; rfl, fun h => ?_, HB3.out⟩
    have hn := HN3.out
    have hr := HR3.out
    rw [numsR_yes h] at hn hr
    exact ⟨by rw [HT.out, bl_ba], by rw [hn, List.length_map], hr⟩

end Go.Proofs.YtmlflmlgjjjmfaaDoor
