/-
  What the pieces of a text at a byte are: what function cut of package text answers.
-/
import Derived.Test.YtmlflmlgjjjmfaaDoorWord
import Derived.Lib.OthersKept
namespace Go.Proofs.YtmlflmlgjjjmfaaDoor
open Go.RowKit

theorem own_below {w w' : World} {B n : Nat} {v : Value} {xs : List Value} (h : w.ownsRow B 9 1 v n xs) (hb : Below w.heap.size w w') : w'.ownsRow B 9 1 v n xs := by
  refine ⟨h.1, ?_⟩
  rcases h.2 with h0 | ⟨g, cap, cur, hv, hg, hh, rest⟩
  · exact .inl h0
  · exact .inr ⟨g, cap, cur, hv, hg, (hb.block g (Array.getElem?_eq_some_iff.1 hh).1).trans hh, rest⟩
theorem own_ne_iter {w : World} {B n k pos : Nat} {s : ByteArray} {v : Value} {xs : List Value} (h : w.ownsRow B 9 1 v n xs) (hk : w.heap[k]? = some (.stringIter s pos)) : v.ownBlock ≠ some k := by
  rcases h.2 with ⟨rfl, _⟩ | ⟨g, cap, cur, rfl, _, hh, _⟩
  · simp [Value.ownBlock]
  · intro he
    have : g = k := by simpa [Value.ownBlock] using he
    subst this
    rw [hh] at hk
    cases hk
theorem own_iterAt {w : World} {B n k pos : Nat} {s : ByteArray} {v : Value} {xs : List Value} (h : w.ownsRow B 9 1 v n xs) (hk : w.heap[k]? = some (.stringIter s pos)) (pos' : Nat) : (w.iterAt k s pos').ownsRow B 9 1 v n xs := by
  refine ⟨h.1, ?_⟩
  rcases h.2 with h0 | ⟨g, cap, cur, hv, hg, hh, rest⟩
  · exact .inl h0
  · refine .inr ⟨g, cap, cur, hv, hg, ?_, rest⟩
    have hne : g ≠ k := fun e => by
      subst e
      rw [hh] at hk
      cases hk
    rw [Lib.iterAt_other w k g s pos' hne]
    exact hh

set_option maxHeartbeats 400000 in
theorem clone_any (s : ByteArray) (w : World) (hs : s.size ≤ 1000000) :
    Calls Tryd.prog 53 #[.string s] w fun e w' => e = .returned (.string s) ∧ Below w.heap.size w w' := by
  go_enter Tryd.func53, Tryd.ntmps53
  go_wp2_with fail
  refine (Tryd.stringslite_Clone s _ (by omega)).mono ?_
  rintro e w1 ⟨rfl, hb⟩
  have HB := Lib.hid hb; clear hb
  go_wp2_with fail
  go_ret
  exact ⟨rfl, HB.out⟩

set_option maxHeartbeats 400000 in
theorem is1_any (r c : Int) (b : Nat) (w : World) (hb : w.cell? ⟨b, 0, none⟩ = some (.int .i32 c)) :
    Calls Tryd.prog 54 #[.int .i32 r, .pointer (some ⟨b, 0, none⟩)] w fun e w' => e = .returned (.bool (r == c)) ∧ w = w' := by
  go_enter Tryd.func54, Tryd.ntmps54
  go_wp2
  go_ret
  exact ⟨rfl, rfl⟩

set_option maxHeartbeats 400000 in
theorem is_any (c : Int) (w : World) :
    Calls Tryd.prog 44 #[.int .i32 c] w fun e w' => e = .returned (.func (.func 54) #[] #[.pointer (some ⟨w.heap.size, 0, none⟩)]) ∧ w' = w.alloc (.cells #[.int .i32 c] 21) := by
  go_enter Tryd.func44, Tryd.ntmps44
  go_wp2
  go_ret
  exact ⟨rfl, rfl⟩

/-- The next rune of a text, as far as a byte below 128 is asked for. -/
theorem next_not (s : ByteArray) (pos : Nat) (hp : pos < s.size) (c : UInt8) (hc : c.toNat < 128) (hne : s[pos]'hp ≠ c) :
    (((Utf8.decode s pos).1 : Int) == (c.toNat : Int)) = false ∧ 1 ≤ (Utf8.decode s pos).2 ∧ pos + (Utf8.decode s pos).2 ≤ s.size ∧ c ∉ ((bl s).drop pos).take (Utf8.decode s pos).2 := by
  by_cases ha : (s[pos]'hp).toNat < 128
  · rw [decode_ascii s pos hp ha]
    refine ⟨?_, Nat.le_refl _, hp, ?_⟩
    · have : (s[pos]'hp).toNat ≠ c.toNat := fun e => hne (UInt8.toNat_inj.1 e)
      simp; omega
    · have e : ((bl s).drop pos).take 1 = [s[pos]'hp] := by
        rw [List.drop_eq_getElem_cons (by rw [← size_bl]; exact hp)]; rfl
      show c ∉ ((bl s).drop pos).take 1
      rw [e]
      intro h
      exact hne (List.mem_singleton.1 h).symm
  · obtain ⟨h1, h2, h3, h4⟩ := rune_high s pos hp (by omega)
    refine ⟨?_, h2, h3, high_free s pos _ h3 h4 c hc⟩
    simp; omega

/-- What is known of the pieces behind a place. -/
def At (c : UInt8) (s : ByteArray) (pos f : Nat) (P : List (List UInt8)) : Prop := cutF c ((bl s).take pos) = (P, ((bl s).take pos).drop f)
theorem At.zero (c : UInt8) (s : ByteArray) : At c s 0 0 [] := by unfold At; rfl
theorem At.far {c : UInt8} {s : ByteArray} {pos f w : Nat} {P : List (List UInt8)} (h : At c s pos f P) (hf : f ≤ pos) (hs : pos ≤ s.size) (hn : c ∉ ((bl s).drop pos).take w) : At c s (pos + w) f P := by
  unfold At at h ⊢
  rw [take_rune, cutF_far c _ _ hn, h, List.drop_append_of_le_length]
  rw [List.length_take, ← size_bl]; omega
theorem At.seam {c : UInt8} {s : ByteArray} {pos f : Nat} {P : List (List UInt8)} (h : At c s pos f P) (hp : pos < s.size) (hc : s[pos]'hp = c) : At c s (pos + 1) (pos + 1) (P ++ [((bl s).take pos).drop f]) := by
  unfold At at h ⊢
  rw [take_bl s pos hp, cutF_snoc, h, hc]
  unfold step
  rw [if_pos rfl]
  congr 1
  rw [List.drop_of_length_le]
  rw [List.length_append, List.length_take, ← size_bl]; simp; omega
theorem piece_eq (s : ByteArray) (f pos : Nat) : s.extract f pos = ba (((bl s).take pos).drop f) := by
  apply bl_inj
  rw [bl_cut, bl_ba, List.drop_take]
theorem At.len {c : UInt8} {s : ByteArray} {pos f : Nat} {P : List (List UInt8)} (h : At c s pos f P) : P.length ≤ pos := by
  unfold At at h
  have h1 := cut_count c ((bl s).take pos)
  rw [h] at h1
  have h2 := List.count_le_length (a := c) (l := (bl s).take pos)
  rw [List.length_take] at h2
  have h3 : P.length = _ := h1
  omega

def CutPost (c : UInt8) (s : ByteArray) (w : World) (e : Ending) (w' : World) : Prop :=
  ∃ (A : Option Addr) (k n : Nat), e = .returned (.tuple #[.slice A n k, .string (ba (cutF c (bl s)).2)]) ∧ n = (cutF c (bl s)).1.length ∧ Rd w' A (cutF c (bl s)).1 ∧ Below w.heap.size w w' ∧
    w'.ownsRow w.heap.size 9 1 (.slice A n k) n (cellsOf (cutF c (bl s)).1)

set_option maxHeartbeats 2000000 in
theorem cut_any (c : UInt8) (hc : c.toNat < 128) (s : ByteArray) (b : Nat) (w : World) (hs : s.size ≤ 100000) (hb : b < w.heap.size) (hcell : w.cell? ⟨b, 0, none⟩ = some (.int .i32 (c.toNat : Int))) :
    Calls Tryd.prog 43 #[.string s, .func (.func 54) #[] #[.pointer (some ⟨b, 0, none⟩)]] w (CutPost c s w) := by
  obtain ⟨i0, hi, hz0, hz1, hz2⟩ := info_parts Tryd.info9
  have HC := Lib.hid hcell; clear hcell
  go_enter Tryd.func43, Tryd.ntmps43
  go_wp2_with fail
  go_loopw [6, 7] (fun v f wr => ∃ (pos k : Nat) (P : List (List UInt8)), k ≤ pos ∧ pos ≤ s.size ∧ f = .int .i64 k ∧ Hid (At c s pos k P) ∧ Hid (wr.ownsRow w.heap.size 9 1 v P.length (cellsOf P)) ∧
    Hid (wr.heap[w.heap.size]? = some (.stringIter s pos)) ∧ Hid (Below w.heap.size w wr)) (fun _ _ wr => s.size - wr.iterPos w.heap.size)
  case atStart => exact ⟨0, 0, [], Nat.le_refl _, Nat.zero_le _, rfl, At.zero c s, World.ownsRow_nil _ _ _ _, World.iter_heap w s 0, below_iter w s 0⟩
  case round =>
    obtain ⟨pos, k, P, hkp, hps, rfl, HAt, HO, HI, HB⟩ := hrel
    have hsz : w.heap.size < wr.heap.size := (Array.getElem?_eq_some_iff.1 HI.out).1
    by_cases hp : pos < s.size
    · by_cases heq : s[pos]'hp = c
      · have hnx : ∀ ty, (Instr.next (.pointer (some ⟨w.heap.size, 0, none⟩)) true ty).run Tryd.prog wr = .ok (.tuple #[.bool true, .int .i64 pos, .int .i32 (c.toNat : Int)]) (wr.iterAt w.heap.size s (pos + 1)) := fun ty => by
          rw [Lib.run_next_ascii_at wr w.heap.size s pos ty HI.out hp (by rw [heq]; exact hc), heq]
        obtain ⟨wn, hwn⟩ : ∃ wn, wn = wr.iterAt w.heap.size s (pos + 1) := ⟨_, rfl⟩
        rw [← hwn] at hnx
        have HI2 : Hid (wn.heap[w.heap.size]? = some (.stringIter s (pos + 1))) := by
          rw [hwn]; exact Lib.iterAt_heap wr w.heap.size s pos (pos + 1) HI.out
        have HB2 : Hid (Below w.heap.size w wn) := by
          rw [hwn]; exact Lib.below_iterAt HB.out (Nat.le_refl _) s (pos + 1)
        have HO2 : Hid (wn.ownsRow w.heap.size 9 1 u6 P.length (cellsOf P)) := by
          rw [hwn]; exact own_iterAt HO.out HI.out (pos + 1)
        have HZ := Lib.hid (show wn.heap.size = wr.heap.size by rw [hwn]; exact Lib.iterAt_size _ _ _ _)
        have hcl : wn.cell? ⟨b, 0, none⟩ = some (.int .i32 (c.toNat : Int)) := (HB2.out.cell (p := ⟨b, 0, none⟩) hb).trans HC.out
        have HS := Lib.hid (HAt.out.seam hp heq)
        have HL := Lib.hid HAt.out.len
        have hl := HL.out
        have HE := Lib.hid heq
        clear hwn HB HO HAt heq
        go_wp2_with fail
        refine (is1_any _ _ b wn hcl).mono ?_
        rintro e w1 ⟨rfl, rfl⟩
        have hsl : ∀ wx, (Instr.slice 9 (.string s) (some (.int .i64 (k : Int))) (some (.int .i64 (pos : Int))) none).run Tryd.prog wx = .ok (.string (s.extract k pos)) wx := fun wx => by go_simp
        go_wp2_with fail
        refine (clone_any (s.extract k pos) wn (by rw [ByteArray.size_extract]; omega)).mono ?_
        rintro e w1 ⟨rfl, hb1⟩
        have hs1 := hb1.size
        have hz := HZ.out
        have HO3 := Lib.hid (own_below HO2.out hb1)
        have HI3 := Lib.hid ((hb1.block w.heap.size (by omega)).trans HI2.out)
        have HB3 := Lib.hid (HB2.out.trans (hb1.mono (by omega)))
        have hw1 : w.heap.size < w1.heap.size := by omega
        clear hb1 HO2 HI2 HB2 HZ hz hs1 hcl hsl
        go_wp2_with (at_builtin; refine wpList_append_own _ rfl _ _ 35 rfl w.heap.size 9 i0 (.string ⟨#[]⟩) 1 16 Tryd.underlying35 hi hz0 hz1 hz2 rfl (by decide) _ _ _ rfl (HO3.out.alloc _) ⟨w1.heap.size, 0, none⟩ 1 1 [.string (s.extract k pos)] rfl rfl ?c1 ?c2 ?c3 ?c4 ?c5 ?_)
        case c1 =>
          intro j u hj
          match j, hj with
          | 0, hj => simp at hj; subst hj; simp [Addr.add]
        case c2 => intro u hu; simp at hu; subst hu; rfl
        case c3 => unfold maxLen; omega
        case c4 => omega
        case c5 => simp; omega
        intro v' w2 hown2 hgrow _
        have HO4 : Hid (w2.ownsRow w.heap.size 9 1 v' (P ++ [((bl s).take pos).drop k]).length (cellsOf (P ++ [((bl s).take pos).drop k]))) := by
          rw [List.length_append, cellsOf_append]
          have : cellsOf [((bl s).take pos).drop k] = [.string (s.extract k pos)] := by rw [piece_eq s k pos]; rfl
          rw [this]
          exact hown2
        have HB4 : Hid (Below w.heap.size w w2) := (HB3.out.alloc (by omega) _).grown hgrow (by simp; omega) (fun q hqq => (HO3.out.lt _ hqq).1)
        have HI4 : Hid (w2.heap[w.heap.size]? = some (.stringIter s (pos + 1))) := by
          show _ = _
          rw [hgrow.block w.heap.size (by simp; omega) (fun e => own_ne_iter HO3.out HI3.out e.symm), Lib.alloc_old w1 _ _ hw1]
          exact HI3.out
        clear hown2 hgrow HO3 HB3 HI3
        go_wp2_with fail
        go_roundw
        case rel => exact ⟨pos + 1, pos + 1, _, Nat.le_refl _, hp, by go_num, HS, HO4, HI4, HB4⟩
        case measure =>
          simp only [World.iterPos, HI4.out, HI.out]
          omega
      · obtain ⟨n1, n2, n3, n4⟩ := next_not s pos hp c hc heq
        have hd := decode_le s pos
        obtain ⟨r, hr⟩ : ∃ r : Int, r = ((Utf8.decode s pos).1 : Int) := ⟨_, rfl⟩
        obtain ⟨d, hd2⟩ : ∃ d : Nat, d = (Utf8.decode s pos).2 := ⟨_, rfl⟩
        have hnx : ∀ ty, (Instr.next (.pointer (some ⟨w.heap.size, 0, none⟩)) true ty).run Tryd.prog wr = .ok (.tuple #[.bool true, .int .i64 pos, .int .i32 r]) (wr.iterAt w.heap.size s (pos + d)) := fun ty => by
          rw [hr, hd2]; exact Lib.run_next_any_at wr w.heap.size s pos ty HI.out hp
        rw [← hr] at n1
        rw [← hd2] at n2 n3 n4
        obtain ⟨wn, hwn⟩ : ∃ wn, wn = wr.iterAt w.heap.size s (pos + d) := ⟨_, rfl⟩
        rw [← hwn] at hnx
        have HI2 : Hid (wn.heap[w.heap.size]? = some (.stringIter s (pos + d))) := by
          rw [hwn]; exact Lib.iterAt_heap wr w.heap.size s pos (pos + d) HI.out
        have HB2 : Hid (Below w.heap.size w wn) := by
          rw [hwn]; exact Lib.below_iterAt HB.out (Nat.le_refl _) s (pos + d)
        have HO2 : Hid (wn.ownsRow w.heap.size 9 1 u6 P.length (cellsOf P)) := by
          rw [hwn]; exact own_iterAt HO.out HI.out (pos + d)
        have hcl : wn.cell? ⟨b, 0, none⟩ = some (.int .i32 (c.toNat : Int)) := (HB2.out.cell (p := ⟨b, 0, none⟩) hb).trans HC.out
        have HS := Lib.hid (HAt.out.far (w := d) hkp hps n4)
        clear hwn HB HO HAt heq hr hd2 hd n4
        go_wp2_with fail
        refine (is1_any _ _ b wn hcl).mono ?_
        rintro e w1 ⟨rfl, rfl⟩
        go_wp2_with fail
        go_roundw
        case rel => exact ⟨pos + d, k, P, by omega, n3, rfl, HS, HO2, HI2, HB2⟩
        case measure =>
          simp only [World.iterPos, HI2.out, HI.out]
          omega
    · obtain rfl : pos = s.size := by omega
      have hnx : ∀ ty, (Instr.next (.pointer (some ⟨w.heap.size, 0, none⟩)) true ty).run Tryd.prog wr = _ := fun ty => Lib.run_next_end_at wr w.heap.size s s.size ty HI.out hp
      have hat := HAt.out
      unfold At at hat
      rw [size_bl, List.take_length] at hat
      obtain ⟨P1, P2⟩ : P = (cutF c (bl s)).1 ∧ (bl s).drop k = (cutF c (bl s)).2 := by rw [hat]; exact ⟨rfl, rfl⟩
      have HP2 := Lib.hid P2; clear P2
      have HO1 := HO.out
      rw [P1] at HO1
      obtain ⟨A, cp, rfl, hn, hR⟩ := own_row HO1
      have HO2 := Lib.hid HO1
      have HR := Lib.hid hR
      clear HO1 hn hR HO HI HAt hat P1
      have hsl : ∀ wx, (Instr.slice 9 (.string s) (some (.int .i64 (k : Int))) none none).run Tryd.prog wx = .ok (.string (s.extract k s.size)) wx := fun wx => by go_simp
      go_wp2_with fail
      refine (clone_any (s.extract k s.size) wr (by rw [ByteArray.size_extract]; omega)).mono ?_
      rintro e w1 ⟨rfl, hb1⟩
      have HB1 := Lib.hid hb1; clear hb1 hsl hnx
      go_wp2_with fail
      go_ret2
      refine ⟨A, cp, _, ?_, rfl, HR.out.below HB1.out, HB.out.trans (HB1.out.mono HB.out.size), own_below HO2.out HB1.out⟩
      rw [piece_eq, size_bl, List.take_length, HP2.out]; rfl

end Go.Proofs.YtmlflmlgjjjmfaaDoor
