/-
  What 'Parse' answers of a text.
-/
import Derived.Test.YtmlflmlgjjjmfaaDoorTakeB
import Derived.WalkMore
import Derived.ScopeJumps
namespace Go.Proofs.YtmlflmlgjjjmfaaDoor
open Go.RowKit

theorem lcells_get : ∀ {ls : List Ly} {j : Nat}, j < ls.length → ∀ i, i < 4 → (lcells ls)[j * 4 + i]? = [Value.int .i64 (ls.getD j Ly.z).k, .int .i64 (ls.getD j Ly.z).o, .int .i64 (ls.getD j Ly.z).s, .int .i64 (ls.getD j Ly.z).t][i]?
  | [], _, h, _, _ => by simp at h
  | l :: ls, 0, _, i, hi => by
    show ([Value.int .i64 l.k, .int .i64 l.o, .int .i64 l.s, .int .i64 l.t] ++ lcells ls)[0 * 4 + i]? = _
    rw [List.getElem?_append_left (by simp; omega), Nat.zero_mul, Nat.zero_add]; rfl
  | l :: ls, j + 1, h, i, hi => by
    show ([Value.int .i64 l.k, .int .i64 l.o, .int .i64 l.s, .int .i64 l.t] ++ lcells ls)[(j + 1) * 4 + i]? = _
    rw [List.getElem?_append_right (by simp; omega)]
    have := lcells_get (ls := ls) (j := j) (by simpa using h) i hi
    rw [show (j + 1) * 4 + i - [Value.int .i64 l.k, .int .i64 l.o, .int .i64 l.s, .int .i64 l.t].length = j * 4 + i by simp; omega, this]
    rfl
theorem own_rl {w : World} {B : Nat} {v : Value} {ls : List Ly} (h : w.ownsRow B 42 4 v ls.length (lcells ls)) : ∃ A c, v = .slice A ls.length c ∧ Rl w A ls := by
  rcases h.2 with ⟨hv, hn⟩ | ⟨g, cp, cur, hv, _, hh, _⟩
  · exact ⟨none, 0, by rw [hv, hn], fun h0 => absurd h0 (by omega)⟩
  · subst hv
    refine ⟨_, cp, rfl, fun _ => ⟨g, 0, rfl, (Array.getElem?_eq_some_iff.1 hh).1, fun j hj => ?_⟩⟩
    have key := lcells_get hj
    have cell : ∀ i, i < 4 → w.cell? ⟨g, 0 + j * 4 + i, none⟩ = [Value.int .i64 (ls.getD j Ly.z).k, .int .i64 (ls.getD j Ly.z).o, .int .i64 (ls.getD j Ly.z).s, .int .i64 (ls.getD j Ly.z).t][i]? := fun i hi => by
      have hk := key i hi
      obtain ⟨u, hu⟩ : ∃ u, (lcells ls)[j * 4 + i]? = some u := by
        rw [hk]
        match i, hi with
        | 0, _ => exact ⟨_, rfl⟩
        | 1, _ => exact ⟨_, rfl⟩
        | 2, _ => exact ⟨_, rfl⟩
        | 3, _ => exact ⟨_, rfl⟩
      have hc := h.cells (g := g) rfl (j * 4 + i) u hu
      rw [plain_add] at hc
      rw [← hk, hu, ← hc, Nat.add_assoc]
    exact ⟨cell 0 (by omega), cell 1 (by omega), cell 2 (by omega), cell 3 (by omega)⟩

/-- What a network, the number of a line and an error come to. -/
def ParseTo (p : Nt × Nat × Int) (w : World) (e : Ending) (w' : World) : Prop :=
  ∃ (A : Option Addr) (k n : Nat), e = .returned (.tuple #[.agg #[.int .i64 p.1.c, .int .i64 p.1.h, .int .i64 p.1.x, .slice A n k], .int .i64 p.2.1, .int .i64 p.2.2]) ∧ n = p.1.ls.length ∧ Rl w' A p.1.ls ∧ Below w.heap.size w w'

theorem takes_snoc : ∀ (xs : List (List UInt8)) (x : List UInt8) (i : Nat) (n : Nt), takesL (xs ++ [x]) i n = takeL (takesL xs i n) (i + xs.length) x
  | [], _, _, _ => rfl
  | y :: ys, x, i, n => by
    simp only [List.cons_append, takesL, List.length_cons]
    rw [takes_snoc ys x (i + 1)]
    rw [show i + 1 + ys.length = i + (ys.length + 1) by omega]
theorem takes_len : ∀ (xs : List (List UInt8)) (i : Nat) (n : Nt), (takesL xs i n).ls.length ≤ n.ls.length + xs.length
  | [], _, _ => by simp [takesL]
  | y :: ys, i, n => by
    simp only [takesL, List.length_cons]
    have h1 := takes_len ys (i + 1) (takeL n i y)
    have h2 : (takeL n i y).ls.length ≤ n.ls.length + 1 := by unfold takeL; split <;> simp
    omega
theorem mem_bulk : ∀ {xs : List (List UInt8)} {x : List UInt8}, x ∈ xs → x.length + 1 ≤ bulk xs
  | [], _, h => absurd h (by simp)
  | y :: ys, x, h => by
    rcases List.mem_cons.1 h with rfl | h
    · simp only [bulk, List.map_cons, List.sum_cons]; omega
    · have := mem_bulk h
      simp only [bulk, List.map_cons, List.sum_cons] at this ⊢; omega
theorem line_le (s : List UInt8) : ∀ x ∈ linesB s, x.length ≤ s.length := by
  have h1 : ∀ x ∈ (cutF 10 s).1, x.length ≤ s.length := by
    intro x hx
    have e := congrArg List.length (lay_cut 10 s)
    rw [List.length_append, bulk_lay] at e
    have := mem_bulk hx
    omega
  intro x hx
  unfold linesB at hx
  split at hx
  · rcases List.mem_append.1 hx with h | h
    · exact h1 x h
    · rw [List.mem_singleton.1 h]; simp
  · exact h1 x hx

/-- What is known at each jump back: k lines were taken. -/
def PJ (s : ByteArray) (w wr : World) (A : Option Addr) (n cp k : Nat) : Prop :=
  ∃ B, w.heap.size + 2 ≤ B ∧ B ≤ wr.heap.size ∧ n = (linesB (bl s)).length ∧ wr.ownsRow (w.heap.size + 2) 9 1 (.slice A n cp) n (cellsOf (linesB (bl s))) ∧ (∀ g, (Value.slice A n cp).ownBlock = some g → g < B) ∧
    Below w.heap.size w wr ∧ okAll ((linesB (bl s)).take k) 0 = true ∧ NetAt wr (w.heap.size + 1) B (takesL ((linesB (bl s)).take k) 0 Nt.zero) ∧ NB wr w.heap.size 0 0 0 (.slice none 0 0)
theorem PJ.next {s : ByteArray} {w wr w' : World} {A : Option Addr} {n cp k B : Nat} {x : List UInt8} (h2 : w.heap.size + 2 ≤ B) (h3 : B ≤ wr.heap.size) (hn : n = (linesB (bl s)).length) (hO : wr.ownsRow (w.heap.size + 2) 9 1 (.slice A n cp) n (cellsOf (linesB (bl s))))
    (hg : ∀ g, (Value.slice A n cp).ownBlock = some g → g < B) (hb : Below w.heap.size w wr) (hk : okAll ((linesB (bl s)).take k) 0 = true) (hx : (linesB (bl s))[k]? = some x) (ho : okAt k x = true)
    (hN : NetAt w' (w.heap.size + 1) B (takeL (takesL ((linesB (bl s)).take k) 0 Nt.zero) k x)) (hR : NB wr w.heap.size 0 0 0 (.slice none 0 0)) (hK : KeepB (w.heap.size + 1) B wr w') : PJ s w w' A n cp (k + 1) := by
  have hkl : k < (linesB (bl s)).length := (List.getElem?_eq_some_iff.1 hx).1
  have hlen : ((linesB (bl s)).take k).length = k := by rw [List.length_take]; omega
  refine ⟨B, h2, Nat.le_trans h3 hK.1.size, hn, ?_, hg, hb.trans (hK.1.mono (by omega)), ?_, ?_, (hK.1.block w.heap.size (by omega)).trans hR⟩
  · refine ⟨hO.1, ?_⟩
    rcases hO.2 with h0 | ⟨g, cap, cur, hv, hg0, hh, rest⟩
    · exact .inl h0
    · refine .inr ⟨g, cap, cur, hv, hg0, ?_, rest⟩
      rw [hK.2 g (by omega) (hg g (by rw [hv]; rfl))]
      exact hh
  · rw [take_get hx, okAll_append, hk, hlen]
    simp [okAll, ho]
  · rw [take_get hx, takes_snoc, hlen, Nat.zero_add]
    exact hN

theorem parse_end {s : List UInt8} (h : okAll (linesB s) 0 = true) (hl : (linesB s).length ≤ 9) : parseL s = (takesL (linesB s) 0 Nt.zero, 0, 0) := by
  unfold parseL; exact run_ok _ _ _ h (by omega)
theorem split_at {xs : List (List UInt8)} {k : Nat} {x : List UInt8} (h : xs[k]? = some x) : xs = xs.take k ++ x :: xs.drop (k + 1) := by
  obtain ⟨hk, e⟩ := List.getElem?_eq_some_iff.1 h
  rw [← e, ← List.drop_eq_getElem_cons hk, List.take_append_drop]
theorem parse_bad {s : List UInt8} {k : Nat} {x : List UInt8} (h : okAll ((linesB s).take k) 0 = true) (hx : (linesB s)[k]? = some x) (hk : k < 9) (ho : okAt k x = false) : parseL s = (Nt.zero, k + 1, 12) := by
  have hkl : k < (linesB s).length := (List.getElem?_eq_some_iff.1 hx).1
  have hlen : ((linesB s).take k).length = k := by rw [List.length_take]; omega
  unfold parseL
  rw [split_at hx, run_form _ x _ 0 _ h (by omega) (by rw [hlen, Nat.zero_add]; exact ho), hlen, Nat.zero_add]
theorem parse_over {s : List UInt8} {x : List UInt8} (h : okAll ((linesB s).take 9) 0 = true) (hx : (linesB s)[9]? = some x) : parseL s = (Nt.zero, 10, 5) := by
  have hkl : 9 < (linesB s).length := (List.getElem?_eq_some_iff.1 hx).1
  have hlen : ((linesB s).take 9).length = 9 := by rw [List.length_take]; omega
  unfold parseL
  rw [split_at hx, run_full _ x _ 0 _ h (by omega)]
theorem below_set4 {w wr : World} (h : Below w.heap.size w wr) (a b c d : Value) : Below w.heap.size w ((((wr.setCell ⟨w.heap.size, 0, none⟩ a).setCell ⟨w.heap.size, 1, none⟩ b).setCell ⟨w.heap.size, 2, none⟩ c).setCell ⟨w.heap.size, 3, none⟩ d) :=
  (((h.setCell (p := ⟨w.heap.size, 0, none⟩) (Nat.le_refl _) _).setCell (p := ⟨w.heap.size, 1, none⟩) (Nat.le_refl _) _).setCell (p := ⟨w.heap.size, 2, none⟩) (Nat.le_refl _) _).setCell (p := ⟨w.heap.size, 3, none⟩) (Nat.le_refl _) _

set_option maxHeartbeats 8000000 in
set_option maxRecDepth 100000 in
theorem parse_any (s : ByteArray) (w : World) (hs : s.size ≤ 100000) (hL : Laid w) : Calls Tryd.prog 11 #[.string s] w (ParseTo (parseL (bl s)) w) := by
  have HL := Lib.hid hL
  clear hL
  go_enter Tryd.func11, Tryd.ntmps11
  go_wp2
  refine wp_scope_jumps 0 (fun a' wr => ∃ (A : Option Addr) (n cp k : Nat) (u8 u9 u10 u11 u12 u13 u14 u15 u16 u17 u18 u19 u20 u21 u22 u23 u24 u25 u26 u27 u28 u29 u30 : Value), a' = { tmps := #[.string s, undef, .pointer (some ⟨w.heap.size, 0, none⟩), .int .i64 0, .int .i64 0, .pointer (some ⟨w.heap.size + 1, 0, none⟩), .slice A n cp, .int .i64 (k : Int), u8, u9, u10, u11, u12, u13, u14, u15, u16, u17, u18, u19, u20, u21, u22, u23, u24, u25, u26, u27, u28, u29, u30], defers := [] } ∧ 1 ≤ k ∧ k ≤ 9 ∧ k ≤ n ∧ Hid (PJ s w wr A n cp k)) (fun a' _ => 10 - (intOf (a'.tmps.getD 7 undef)).toNat) rfl ?_ ?_
  · go_wp2_with fail
    refine (linesOf_any s _ hs).mono ?_
    rintro e w2 ⟨A, cp, n, rfl, hn, hO, hb⟩
    obtain ⟨l0, lr, hl0⟩ := lines_cons (bl s)
    have hx : (linesB (bl s))[0]? = some l0 := by rw [hl0]; rfl
    have hn1 : 1 ≤ n := by rw [hn, hl0]; simp
    have hO' : w2.ownsRow (w.heap.size + 2) 9 1 (.slice A n cp) n (cellsOf (linesB (bl s))) := by
      rwa [show ((w.alloc (Obj.cells #[Value.int IntKind.i64 0, Value.int IntKind.i64 0, Value.int IntKind.i64 0, Value.slice none 0 0] 26)).alloc (Obj.cells #[Value.int IntKind.i64 0, Value.int IntKind.i64 0, Value.int IntKind.i64 0, Value.slice none 0 0] 26)).heap.size = w.heap.size + 2 by simp] at hO
    have hs2 := hb.size
    simp at hs2
    have HB := Lib.hid ((((Below.refl w.heap.size w).alloc (Nat.le_refl _) _).alloc (by simp) _).trans (hb.mono (by simp; omega)))
    have HNR : Hid (NB w2 w.heap.size 0 0 0 (.slice none 0 0)) := ((NB.new w 0 0 0 (.slice none 0 0)).alloc _).below hb
    have HNN : Hid (NB w2 (w.heap.size + 1) 0 0 0 (.slice none 0 0)) := by
      have := (NB.new (w.alloc (.cells #[.int .i64 0, .int .i64 0, .int .i64 0, .slice none 0 0] 26)) 0 0 0 (.slice none 0 0)).below hb
      rwa [show (w.alloc (.cells #[.int .i64 0, .int .i64 0, .int .i64 0, .slice none 0 0] 26)).heap.size = w.heap.size + 1 by simp] at this
    obtain ⟨A', c', hv, hjunk, hRd⟩ := own_row hO'
    clear hjunk
    cases hv
    obtain ⟨b1, o1, rfl, l1, q⟩ := hRd (by rw [hl0]; simp)
    have c1 : w2.cell? ⟨b1, o1, none⟩ = some (.string (ba l0)) := by
      have := q 0 (by rw [hl0]; simp)
      rw [hl0] at this
      exact this
    have HO := Lib.hid hO'
    have HN := Lib.hid hn
    have HX := Lib.hid hx
    have hll : l0.length ≤ 100000 := by
      have := line_le (bl s) l0 (List.mem_of_getElem? hx)
      rw [← size_bl] at this
      omega
    clear hn hO hO' hb hl0 hx hRd q
    have d0 : ((0 : Int) == (n : Int)) = false := by simp; omega
    have d1 : (0 : Nat) < n := hn1
    have hNet : NetAt w2 (w.heap.size + 1) w2.heap.size Nt.zero := ⟨.slice none 0 0, HNN.out, World.ownsRow_nil _ _ _ _⟩
    have HNet := Lib.hid hNet
    clear hNet
    obtain ⟨t, HT⟩ : ∃ t, Hid (t = ba l0) := ⟨_, rfl⟩
    rw [← HT.out] at c1
    have htl : t.size ≤ 100000 := by rw [HT.out, ba_size]; exact hll
    have HTb : Hid (bl t = l0) := by show _ = _; rw [HT.out, bl_ba]
    go_wp2_with fail
    go_step3
    go_wp2_with fail
    refine (take_in Nt.zero t (w.heap.size + 1) w2.heap.size w w2 HL.out HB.out (by omega) (by omega) (Nat.le_refl _) HNet.out htl).mono ?_
    rintro e w3 ⟨rfl, hNt, hK⟩
    rw [HTb.out]
    have hNR3 : NB w3 w.heap.size 0 0 0 (.slice none 0 0) := (hK.1.block w.heap.size (by omega)).trans HNR.out
    obtain ⟨r0, r1, r2, r3⟩ := hNR3.cells
    obtain ⟨f0, f1, f2, f3⟩ := hNR3.frozen
    have HB3 := Lib.hid (HB.out.trans (hK.1.mono (by omega)))
    have HNR3 := Lib.hid hNR3
    have HK := Lib.hid hK
    have HNt := Lib.hid hNt
    clear hNt hK hNR3 c1
    cases hok : okAt 0 l0
    · have HP := Lib.hid (parse_bad (k := 0) rfl HX.out (by omega) hok)
      clear hok
      go_wp2_with fail
      simp only [Exit.jump]
      exact bodyPost_ret (v := .tuple #[.agg #[.int .i64 0, .int .i64 0, .int .i64 0, .slice none 0 0], .int .i64 1, .int .i64 12]) (by simp [results, Tryd.results11, go_sem, r0, r1, r2, r3]) rfl ⟨none, 0, 0, by rw [HP.out]; rfl, by rw [HP.out]; rfl, by rw [HP.out]; exact Rl.nil _ _, below_set4 HB3.out _ _ _ _⟩
    · have hno := HNt.out (by rw [HTb.out]; exact hok)
      rw [HTb.out] at hno
      have HPJ : Hid (PJ s w w3 (some ⟨b1, o1, none⟩) n cp (0 + 1)) := PJ.next (k := 0) (B := w2.heap.size) hs2 (Nat.le_refl _) HN.out HO.out (fun g hg => (HO.out.lt g hg).2) HB.out rfl HX.out hok hno HNR.out HK.out
      clear hok hno
      go_wp2_with fail
      go_step3
      exact ⟨rfl, some ⟨b1, o1, none⟩, n, cp, 1, _, _, _, _, _, _, _, _, _, _, _, _, _, _, _, _, _, _, _, _, _, _, _, rfl, by omega, by omega, hn1, HPJ⟩
  · rintro a' wr ⟨A, n, cp, k, u8, u9, u10, u11, u12, u13, u14, u15, u16, u17, u18, u19, u20, u21, u22, u23, u24, u25, u26, u27, u28, u29, u30, rfl, hk1, hk9, hkn, HJ⟩
    obtain ⟨B, h2, h3, hn, hO, hg, hb, hall, hNet, hNR⟩ := HJ.out
    obtain ⟨A', c', hv, hjunk, hRd⟩ := own_row hO
    clear hjunk
    cases hv
    have HN := Lib.hid hn; have HO := Lib.hid hO; have HG := Lib.hid hg; have HB := Lib.hid hb; have HA := Lib.hid hall; have HNet := Lib.hid hNet; have HNR := Lib.hid hNR; have HRd := Lib.hid hRd
    obtain ⟨r0, r1, r2, r3⟩ := hNR.cells
    obtain ⟨f0, f1, f2, f3⟩ := hNR.frozen
    clear hn hO hg hb hall hNet hNR hRd HJ
    have htn := takes_len ((linesB (bl s)).take k) 0 Nt.zero
    have htk : ((linesB (bl s)).take k).length ≤ k := List.length_take_le _ _
    have hz0 : Nt.zero.ls.length = 0 := rfl
    obtain ⟨nt, hnt⟩ : ∃ nt, nt = takesL ((linesB (bl s)).take k) 0 Nt.zero := ⟨_, rfl⟩
    rw [← hnt] at htn
    have hnl : nt.ls.length ≤ 1000 := by omega
    have HNT := Lib.hid hnt
    clear htn htk hz0 hnt
    by_cases hkn2 : k = n
    · have d0 : ((k : Int) == (n : Int)) = true := by simp; omega
      have d1 : (k == n) = true := by simpa using hkn2
      have hal := HA.out
      have hk3 : (linesB (bl s)).take k = linesB (bl s) := by rw [hkn2, HN.out]; exact List.take_length
      have hnt2 := HNT.out
      rw [hk3] at hal hnt2
      have HP : Hid (parseL (bl s) = (nt, 0, 0)) := by
        show _ = _
        rw [hnt2]; exact parse_end hal (by rw [← HN.out]; omega)
      obtain ⟨v, hNB, hOw⟩ := HNet.out
      rw [← HNT.out] at hNB hOw
      obtain ⟨n0, n1, n2, n3⟩ := hNB.cells
      obtain ⟨A2, c2, rfl, hRl⟩ := own_rl hOw
      have HRb := Lib.hid hOw
      obtain ⟨L2, hL2⟩ : ∃ L2, L2 = nt.ls.length := ⟨_, rfl⟩
      rw [← hL2] at n3
      have HL2 := Lib.hid hL2
      clear hal hk3 hnt2 hNB hOw hRl hL2 hkn2
      go_wp2_with fail
      simp only [Exit.jump]
      refine bodyPost_ret (v := .tuple #[.agg #[.int .i64 nt.c, .int .i64 nt.h, .int .i64 nt.x, .slice A2 L2 c2], .int .i64 0, .int .i64 0]) (by simp [results, Tryd.results11, go_sem, r0, r1, r2, r3]) rfl ⟨A2, c2, L2, by rw [HP.out]; rfl, by rw [HP.out]; exact HL2.out, ?_, below_set4 HB.out _ _ _ _⟩
      rw [HP.out]
      obtain ⟨A3, c3, hv3, hR3⟩ := own_rl (own_same HRb.out (w' := ((((wr.setCell ⟨w.heap.size, 0, none⟩ (.int .i64 nt.c)).setCell ⟨w.heap.size, 1, none⟩ (.int .i64 nt.h)).setCell ⟨w.heap.size, 2, none⟩ (.int .i64 nt.x)).setCell ⟨w.heap.size, 3, none⟩ (.slice A2 L2 c2))) fun g h1 _ => by
        rw [Below.heap_setCell _ _ _ _ (by show g ≠ w.heap.size; omega), Below.heap_setCell _ _ _ _ (by show g ≠ w.heap.size; omega), Below.heap_setCell _ _ _ _ (by show g ≠ w.heap.size; omega), Below.heap_setCell _ _ _ _ (by show g ≠ w.heap.size; omega)])
      cases hv3
      exact hR3
    · have d0 : ((k : Int) == (n : Int)) = false := by simp; omega
      have d1 : (k == n) = false := by simpa using hkn2
      have hlt : k < n := by omega
      have hkl : k < (linesB (bl s)).length := by rw [← HN.out]; exact hlt
      obtain ⟨x, hxe⟩ : ∃ x, x = (linesB (bl s)).getD k [] := ⟨_, rfl⟩
      have HX : Hid ((linesB (bl s))[k]? = some x) := by show _ = _; rw [hxe]; exact get_some hkl
      by_cases h9 : k = 9
      · subst h9
        have HP := Lib.hid (parse_over HA.out HX.out)
        clear hxe
        go_wp2_with fail
        simp only [Exit.jump]
        exact bodyPost_ret (v := .tuple #[.agg #[.int .i64 0, .int .i64 0, .int .i64 0, .slice none 0 0], .int .i64 10, .int .i64 5]) (by simp [results, Tryd.results11, go_sem, r0, r1, r2, r3]) rfl ⟨none, 0, 0, by rw [HP.out]; rfl, by rw [HP.out]; rfl, by rw [HP.out]; exact Rl.nil _ _, below_set4 HB.out _ _ _ _⟩
      · obtain ⟨b1, o1, rfl, l1, q⟩ := HRd.out (by omega)
        have c1 : wr.cell? ⟨b1, o1 + k, none⟩ = some (.string (ba x)) := by rw [q k hkl, hxe]
        obtain ⟨t, HT⟩ : ∃ t, Hid (t = ba x) := ⟨_, rfl⟩
        rw [← HT.out] at c1
        have hll : x.length ≤ 100000 := by
          have := line_le (bl s) x (List.mem_of_getElem? HX.out)
          rw [← size_bl] at this
          omega
        have htl : t.size ≤ 100000 := by rw [HT.out, ba_size]; exact hll
        have HTb : Hid (bl t = x) := by show _ = _; rw [HT.out, bl_ba]
        have e9 : decide ((9 : Int) < (k : Int) + 1) = false := by simp; omega
        have hk8 : k ≤ 8 := by omega
        have ek : (((k : Int) + 1) == 1) = false := by simp; omega
        clear hxe q hll hkn2 h9
        go_wp2_with fail
        refine (take_ly ((k : Int) + 1) ek k hk1 nt hnl t (w.heap.size + 1) B w wr HL.out HB.out (by omega) (by omega) h3 (by rw [HNT.out]; exact HNet.out) htl).mono ?_
        rintro e w3 ⟨rfl, hNt, hK⟩
        rw [HTb.out]
        have hNR3 : NB w3 w.heap.size 0 0 0 (.slice none 0 0) := (hK.1.block w.heap.size (by omega)).trans HNR.out
        obtain ⟨s0, s1, s2, s3⟩ := hNR3.cells
        obtain ⟨g0, g1, g2, g3⟩ := hNR3.frozen
        have HB3 := Lib.hid (HB.out.trans (hK.1.mono (by omega)))
        have HK := Lib.hid hK
        have HNt := Lib.hid hNt
        clear hNt hK hNR3 c1 r0 r1 r2 r3 f0 f1 f2 f3
        cases hok : okAt k x
        · have HP := Lib.hid (parse_bad (k := k) HA.out HX.out (by omega) hok)
          clear hok
          go_wp2_with fail
          simp only [Exit.jump]
          exact bodyPost_ret (v := .tuple #[.agg #[.int .i64 0, .int .i64 0, .int .i64 0, .slice none 0 0], .int .i64 ((k : Int) + 1), .int .i64 12]) (by simp [results, Tryd.results11, go_sem, s0, s1, s2, s3]) rfl ⟨none, 0, 0, by rw [HP.out]; rfl, by rw [HP.out]; rfl, by rw [HP.out]; exact Rl.nil _ _, below_set4 HB3.out _ _ _ _⟩
        · have hno := HNt.out (by rw [HTb.out]; exact hok)
          rw [HTb.out, HNT.out] at hno
          have HPJ : Hid (PJ s w w3 (some ⟨b1, o1, none⟩) n cp (k + 1)) := PJ.next (k := k) (B := B) h2 h3 HN.out HO.out HG.out HB.out HA.out HX.out hok hno HNR.out HK.out
          clear hok hno
          go_wp2_with fail
          go_step3
          exact ⟨rfl, ⟨some ⟨b1, o1, none⟩, n, cp, k + 1, _, _, _, _, _, _, _, _, _, _, _, _, _, _, _, _, _, _, _, _, _, _, _, rfl, by omega, by omega, by omega, HPJ⟩, by simp [intOf]; omega⟩

end Go.Proofs.YtmlflmlgjjjmfaaDoor
