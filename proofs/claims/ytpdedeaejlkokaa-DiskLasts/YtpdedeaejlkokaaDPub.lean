/-
  What package disk answers: Read.
-/
import Derived.Test.YtpdedeaejlkokaaDPub9
namespace Go.Proofs.Ytpdedeaejlkokaa
open Go.RowKit Go.Shelf
attribute [local go_sem] Oper.semAt_some

theorem below_drewW (n : Nat) (W : World) : Below n W W.drew := ⟨rfl, rfl, rfl, Nat.le_refl _, fun _ _ => rfl⟩
theorem dn_none {p : List (Nat × List UInt8)} {k : Nat} : ∀ j, j ≤ p.length → (∀ z ∈ dnI p j, ¬ (p[z]).1 = k) → dkLast (p.drop (p.length - j)) k = none
  | 0, _, _ => by rw [Nat.sub_zero, List.drop_length]; rfl
  | j + 1, hj, h => by
    rw [dn_next (by omega)] at h
    have h1 := dn_none j (by omega) fun z hz => h z (List.mem_append_left _ hz)
    have h2 : ¬ (p[p.length - 1 - j]'(by omega)).1 = k := h ⟨p.length - 1 - j, by omega⟩ (by simp)
    have e : p.length - (j + 1) = p.length - 1 - j := by omega
    rw [e]
    exact last_more (List.getElem?_eq_getElem (by omega)) h2 (by rw [show p.length - 1 - j + 1 = p.length - j by omega]; exact h1)
theorem dn_stop {p : List (Nat × List UInt8)} {k j : Nat} {pre' : List (Fin p.length)} {y : Fin p.length} (hj : j ≤ p.length) (h : dnI p j = pre' ++ [y]) (h1 : ∀ z ∈ pre', ¬ (p[z]).1 = k) (h2 : (p[y]).1 = k) : dkLast p k = some (p[y]).2 := by
  cases j with
  | zero => simp [dnI] at h
  | succ j =>
    rw [dn_next (by omega)] at h
    obtain ⟨rfl, e⟩ := List.append_inj' h rfl
    injection e with e
    obtain ⟨yk, yl⟩ := y
    obtain rfl : p.length - 1 - j = yk := congrArg Fin.val e
    have hx : p[p.length - 1 - j]? = some (p[p.length - 1 - j]'(by omega)) := List.getElem?_eq_getElem (by omega)
    have := last_here hx (by
      rw [show p.length - 1 - j + 1 = p.length - j by omega]
      have q := dn_none (k := k) j (by omega) h1
      have h2 : (p[p.length - 1 - j]'(by omega)).1 = k := h2
      rw [h2]
      exact q)
    have h2' : (p[p.length - 1 - j]'(by omega)).1 = k := h2
    rw [h2'] at this
    exact this
theorem put_below {w V : World} {D : Nat} (hB : Below w.heap.size w V) (hD : w.heap.size ≤ D) (hV : V.heap[D]? = some (.deferred (some []))) : Below w.heap.size w (V.putObj D (.deferred none)) :=
  hB.trans (belowK_b (w := w) (Nat.le_refl _) V D _ _ hD hV rfl rfl)
theorem bto_some {w V : World} {D nb : Nat} {l : List UInt8} (hl : l.length = 64) (hB : Below w.heap.size w V) (hn : V.heap[nb]? = some (.cells (scells l).toArray 67 (0, 0))) (hw : w.heap.size ≤ nb) (hD : w.heap.size ≤ D) (hV : V.heap[D]? = some (.deferred (some []))) (e : Int) :
    BTo (l, e) w (.returned (.tuple #[.slice (some ⟨nb, 0, none⟩) 64 64, .int .i64 e])) (V.putObj D (.deferred none)) := by
  have ne : nb ≠ D := fun q => by rw [q, hV] at hn; cases hn
  have hn2 : (V.putObj D (.deferred none)).heap[nb]? = some (.cells (scells l).toArray 67 (0, 0)) := (World.putObj_heap_other ne).trans hn
  have ow : (V.putObj D (.deferred none)).ownsRow w.heap.size 67 1 (.slice (some ⟨nb, 0, none⟩) 64 64) l.length (l.flatMap bcells) := by
    refine ⟨by rw [flat_len bcells_len], .inr ⟨nb, 64, _, by rw [hl], hw, hn2, by omega, by decide, by rw [List.size_toArray, scells_len], ?_⟩⟩
    rw [scells_eq hl]
    exact List.take_of_length_le (by show (l.flatMap bcells).length ≤ _; rw [flat_len bcells_len]; exact Nat.le_refl _)
  obtain ⟨A, c, e1, _, hr⟩ := own_rg bcells_len (by decide) ow
  injection e1 with e1
  subst e1
  exact ⟨_, 64, 64, rfl, hl.symm, hr, put_below hB hD hV, Nat.le_refl _, fun a q => by obtain rfl := Option.some.inj q; exact hw, _, ow⟩
theorem bto_none {w V : World} {D : Nat} (hB : Below w.heap.size w V) (hD : w.heap.size ≤ D) (hV : V.heap[D]? = some (.deferred (some []))) (e : Int) :
    BTo ([], e) w (.returned (.tuple #[.slice none 0 0, .int .i64 e])) (V.putObj D (.deferred none)) :=
  ⟨none, 0, 0, rfl, rfl, Rg.nil _ _ _, put_below hB hD hV, Nat.le_refl _, (fun a q => by cases q), 5, World.ownsRow_nil _ _ _ _⟩
set_option maxHeartbeats 4000000 in
set_option maxRecDepth 100000 in
theorem read15 (B : Nat) (O : Nat → Prop) (g m : Nat) (d : Dk) (i : Int) (w : World) (H : DI B O d g w) (ok : DkOk m d) (hm : m ≤ 5000) (hp : d.p.length ≤ 100000) :
    Calls Try.prog 19 #[.pointer (some ⟨g, 0, none⟩), .int .i64 i] w (BTo (dkRead d i) w) := by
  obtain ⟨vP, H⟩ := H
  obtain ⟨A, A', c, c', mb, rfl, h1, r1, r2, tm, omb, oP⟩ := H.var
  obtain ⟨n, hn⟩ : ∃ n, n = d.p.length := ⟨_, rfl⟩
  rw [← hn] at H
  have HOW : Hid (∀ b, O b → b < w.heap.size) := fun b q => (H.lt b q).2
  obtain ⟨o1, ho1⟩ : ∃ o, o = Obj.cells #[.pointer (some ⟨g, 0, none⟩)] 25 := ⟨_, rfl⟩
  obtain ⟨o2, ho2⟩ : ∃ o, o = Obj.cells #[.int .i64 i] 3 := ⟨_, rfl⟩
  obtain ⟨o3, ho3⟩ : ∃ o, o = Obj.cells #[.slice none 0 0] 31 := ⟨_, rfl⟩
  obtain ⟨o4, ho4⟩ : ∃ o, o = Obj.cells #[.int .i64 0] 29 := ⟨_, rfl⟩
  have s1 : (w.alloc o1).heap.size = w.heap.size + 1 := by simp
  have s2 : ((w.alloc o1).alloc o2).heap.size = w.heap.size + 2 := by simp
  have s3 : (((w.alloc o1).alloc o2).alloc o3).heap.size = w.heap.size + 3 := by simp
  have s4 : ((((w.alloc o1).alloc o2).alloc o3).alloc o4).heap.size = w.heap.size + 4 := by simp
  have BA : Below w.heap.size w ((((w.alloc o1).alloc o2).alloc o3).alloc o4) := chain_alloc (chain_alloc (chain_alloc (chain_alloc (Below.refl _ w) o1) o2) o3) o4
  have C1 : CB ((((w.alloc o1).alloc o2).alloc o3).alloc o4) w.heap.size 25 (.pointer (some ⟨g, 0, none⟩)) := by
    have a : CB (w.alloc o1) w.heap.size 25 (.pointer (some ⟨g, 0, none⟩)) := by rw [ho1]; exact heap_alloc_new w _
    exact ((a.below (chain_alloc (Below.refl _ _) o2)).below (chain_alloc (Below.refl _ _) o3)).below (chain_alloc (Below.refl _ _) o4)
  have C2 : CB ((((w.alloc o1).alloc o2).alloc o3).alloc o4) (w.heap.size + 1) 3 (.int .i64 i) := by
    have a : CB ((w.alloc o1).alloc o2) (w.heap.size + 1) 3 (.int .i64 i) := by rw [← s1, ho2]; exact heap_alloc_new _ _
    exact (a.below (chain_alloc (Below.refl _ _) o3)).below (chain_alloc (Below.refl _ _) o4)
  have C3 : CB ((((w.alloc o1).alloc o2).alloc o3).alloc o4) (w.heap.size + 2) 31 (.slice none 0 0) := by
    have a : CB (((w.alloc o1).alloc o2).alloc o3) (w.heap.size + 2) 31 (.slice none 0 0) := by rw [← s2, ho3]; exact heap_alloc_new _ _
    exact a.below (chain_alloc (Below.refl _ _) o4)
  have C4 : CB ((((w.alloc o1).alloc o2).alloc o3).alloc o4) (w.heap.size + 3) 29 (.int .i64 0) := by rw [← s3, ho4]; exact heap_alloc_new _ _
  have D1 := H.below BA
  have cd := C1.cell
  have ci := C2.cell
  have CH := Lib.hid (has15 B O g d _ i ((((w.alloc o1).alloc o2).alloc o3).alloc o4) D1)
  have HC1 := Lib.hid C1; have HC2 := Lib.hid C2; have HC3 := Lib.hid C3; have HC4 := Lib.hid C4; have HD := Lib.hid D1; have HB := Lib.hid BA; have S4 := Lib.hid s4; have OK := Lib.hid ok; have HN := Lib.hid hn
  have n1 : n ≤ 100000 := by omega
  clear H h1 r1 r2 tm omb oP s1 s2 s3 s4 BA C1 C2 C3 C4 D1 ok hp hn
  subst ho1 ho2 ho3 ho4
  obtain ⟨mf, hmf⟩ : ∃ m : Nat, 9 ≤ m := ⟨9, Nat.le_refl _⟩
  refine (callsIn_wide (n := mf)).1 ?_
  refine callsIn_of_wp_marks Try.func19 rfl trivial ?_ rfl
  simp only [Try.ntmps19, List.size_toArray, List.length_cons, List.length_nil, Nat.reduceAdd, Nat.reduceSub, Array.replicate_succ, Array.replicate_zero, List.push_toArray, List.append_toArray, List.nil_append, List.cons_append]
  gi_wp2_with fail
  refine ⟨trivial, fun z => by simp [Fence.wide] at z, (callsIn_wide.2 CH.out).mono ?_⟩
  rintro e w1 ⟨rfl, rfl⟩
  clear CH cd ci
  generalize (((w.alloc (Obj.cells #[.pointer (some ⟨g, 0, none⟩)] 25)).alloc (Obj.cells #[.int .i64 i] 3)).alloc (Obj.cells #[.slice none 0 0] 31)).alloc (Obj.cells #[.int .i64 0] 29) = W4 at HC1 HC2 HC3 HC4 HD HB S4 ⊢
  obtain ⟨b4, hb4⟩ : ∃ b, b = w.heap.size + 1 + 1 + 1 := ⟨_, rfl⟩
  obtain ⟨b3, hb3⟩ : ∃ b, b = w.heap.size + 1 + 1 := ⟨_, rfl⟩
  obtain ⟨b2, hb2⟩ : ∃ b, b = w.heap.size + 1 := ⟨_, rfl⟩
  obtain ⟨b1, hb1⟩ : ∃ b, b = w.heap.size := ⟨_, rfl⟩
  rw [show w.heap.size + 3 = b4 by omega] at HC4
  rw [show w.heap.size + 2 = b3 by omega] at HC3
  rw [← hb2] at HC2
  rw [← hb1] at HC1
  rw [← hb4, ← hb3, ← hb2, ← hb1]
  have NE : Hid (b4 = b1 + 3 ∧ b3 = b1 + 2 ∧ b2 = b1 + 1 ∧ b1 = w.heap.size) := ⟨by omega, by omega, by omega, hb1⟩
  have n34 : ¬ b3 = b4 := by omega
  have n43 : ¬ b4 = b3 := by omega
  clear hb4 hb3 hb2 hb1
  have cd := HC1.out.cell
  have ci := HC2.out.cell
  obtain ⟨A3, A3', c3, c3', mb3, e3, q1, r1, r2, tm, omb, oP⟩ := HD.out.var
  rw [← HN.out] at e3
  injection e3 with e3 _ e4
  subst e3 e4
  have ck := (pcell q1).2.1
  have RP := Lib.hid r2
  clear q1 r1 r2 tm omb oP
  cases hin : dkIn d i with
  | false =>
    have E : Hid (dkRead d i = ([], 3)) := if_pos hin
    have y3 := HC3.out.cell; have z3 := HC3.out.frozen; have y4 := HC4.out.cell; have z4 := HC4.out.frozen
    clear hin ck
    gi_wp2_with fail
    have B5 : Below w.heap.size w ((W4.setCell ⟨b3, 0, none⟩ (.slice none 0 0)).setCell ⟨b4, 0, none⟩ (.int .i64 3)) := (HB.out.setCell (p := ⟨b3, 0, none⟩) (by have := NE.out; show w.heap.size ≤ b3; omega) _).setCell (p := ⟨b4, 0, none⟩) (by have := NE.out; show w.heap.size ≤ b4; omega) _
    have p0 := (CB.other (CB.set HC3.out (.slice none 0 0)) ⟨b4, 0, none⟩ (.int .i64 3) n34).cell
    have p1 := (CB.set (CB.other HC4.out ⟨b3, 0, none⟩ (.slice none 0 0) n43) (.int .i64 3)).cell
    generalize (W4.setCell ⟨b3, 0, none⟩ (.slice none 0 0)).setCell ⟨b4, 0, none⟩ (.int .i64 3) = V at B5 p0 p1 ⊢
    refine ⟨.tuple #[.slice none 0 0, .int .i64 3], by simp [results, Try.results19, go_sem, p0, p1], ?_⟩
    rw [E.out]
    exact ⟨none, 0, 0, rfl, rfl, Rg.nil _ _ _, B5, Nat.le_refl _, (fun a q => by cases q), 5, World.ownsRow_nil _ _ _ _⟩
  | true =>
    have hin2 : 0 ≤ i ∧ i < (d.l.length : Int) := of_decide_eq_true hin
    obtain ⟨ki, rfl⟩ : ∃ ki : Nat, i = (ki : Int) := ⟨i.toNat, by omega⟩
    have HKI : Hid (ki < d.l.length) := by show _ < _; omega
    have RD : Hid (dkRead d (ki : Int) = match dkLast d.p ki with | some b => (b, 0) | none => dkAt d ki) := by
      show _ = _
      unfold dkRead
      rw [if_neg (by rw [hin]; decide), Int.toNat_natCast]
      rfl
    clear hin hin2
    gi_wp2_with fail
    refine ⟨trivial, fun z => by simp [Fence.wide] at z, (callsIn_wide.2 (backw15 A' n c' _)).mono ?_⟩
    rintro e w1 ⟨rfl, rfl⟩
    gi_wp2_with fail
    have BA := chain_alloc (Below.refl _ W4) (.cells #[.slice A' n c'] 55)
    have CS : CB (W4.alloc (.cells #[.slice A' n c'] 55)) W4.heap.size 55 (.slice A' n c') := heap_alloc_new W4 _
    have sz0 : (W4.alloc (.cells #[.slice A' n c'] 55)).heap.size = W4.heap.size + 1 := by simp
    replace HC1 := Lib.hid (HC1.out.below BA); replace HC2 := Lib.hid (HC2.out.below BA); replace HC3 := Lib.hid (HC3.out.below BA); replace HC4 := Lib.hid (HC4.out.below BA)
    replace HD := Lib.hid (HD.out.below BA)
    replace HB := Lib.hid (chain HB.out BA)
    replace RP := Lib.hid (RP.out.below BA)
    have GK : Hid ((W4.alloc (.cells #[.slice A' n c'] 55)).cell? ⟨g, 1, none⟩ = some (.slice A' n c')) := by
      obtain ⟨_, _, _, _, _, e3, q1, _⟩ := HD.out.var
      exact (pcell q1).2.1
    obtain ⟨bs, hbs⟩ : ∃ bs, bs = W4.heap.size := ⟨_, rfl⟩
    rw [← hbs] at CS ⊢
    generalize W4.alloc (.cells #[.slice A' n c'] 55) = W0 at HC1 HC2 HC3 HC4 HD HB RP GK CS sz0 ⊢
    have ws : w.heap.size ≤ W0.heap.size := HB.out.size
    have NOB := HOW
    have GL : Hid (g < W0.heap.size) := (HD.out.lt g HD.out.own).2
    clear BA cd ci ck hbs sz0
    refine wpIn_rangeFunc_ownH (F := Fence.wide) rfl (by omega) (gf := 42) (lb := #[.pointer (some ⟨bs, 0, none⟩)]) rfl trivial (enters_of Try.func42 (by kernel_rfl) rfl)
      (back_stops (mf - 1) d.p A' n c' bs W0 HN.out n1 RP.out CS) (fun h k => h.trans k) (fun W l o o' => belowK_b (Nat.le_refl _) W l o o') (Below.refl _ _) (fun _ => rfl)
      (fun pre W => (∀ y ∈ pre, ¬ (d.p[y]).1 = ki) ∧ Below W0.heap.size W0 W)
      (fun q pre W => (∃ (pre' : List (Fin d.p.length)) (y : Fin d.p.length), (q = .ret ∧ pre = pre' ++ [y] ∧ (∀ z ∈ pre', ¬ (d.p[z]).1 = ki) ∧ (d.p[y]).1 = ki) ∧ ∃ nb, w.heap.size ≤ nb ∧ W.heap[nb]? = some (.cells (scells (d.p[y]).2).toArray 67 (0, 0)) ∧ CB W b3 31 (.slice (some ⟨nb, 0, none⟩) 64 64) ∧ CB W b4 29 (.int .i64 0)) ∧ Below w.heap.size w W)
      (OwnFrom.and (ownFrom_pure _ _) (ownFrom_below (Nat.le_refl _) (Nat.le_refl _)))
      (fun q => OwnFrom.and (fun pre P1 P2 row hs hg hr => by obtain ⟨pre', y, e1, nb, e2, e3, e4, e5⟩ := hs; exact ⟨pre', y, e1, nb, e2, cells_own nb _ _ _ () P1 P2 row e3 hg (fun r e => (hr r e).2), cb_own _ _ _ () P1 P2 row e4 hg (fun r e => (hr r e).2), cb_own _ _ _ () P1 P2 row e5 hg (fun r e => (hr r e).2)⟩) (ownFrom_below (Nat.le_refl _) ws))
      ⟨by simp, Below.refl _ _⟩
      (fun y a' _ => a' = { tmps := #[.pointer (some ⟨g, 0, none⟩), .int .i64 (ki : Int), .pointer (some ⟨b1, 0, none⟩), .pointer (some ⟨b2, 0, none⟩), .pointer (some ⟨b3, 0, none⟩), .pointer (some ⟨b4, 0, none⟩), .int .i64 ((y.1 : Nat) : Int), .pointer (some ⟨g, 0, none⟩), .int .i64 (ki : Int), .bool true, .bool false, .pointer (some ⟨g, 0, none⟩), .pointer (some ⟨g, 0, none⟩), .pointer (some ⟨g, 1, none⟩), Value.slice A' n c', .func (.func 42) #[] #[.pointer (some ⟨bs, 0, none⟩)], .int .i64 ((y.1 : Nat) : Int), .agg (wcells d.p[y]).toArray, undef, undef, undef, undef, undef, undef, undef, undef, undef, undef, undef, undef, undef, undef, undef, undef, undef, undef, undef, undef, undef, undef, undef, undef, undef, undef, undef, undef, undef, undef, undef, undef, undef], defers := [] })
      (fun _ _ _ _ _ _ hs _ _ => hs)
      ?assign ?body ?done ?stop
    case assign =>
      rintro l pre y W K hI hK
      simp only [encB]
      gi_wp2_with fail
      exact hK _ _ (KeepsFrom.refl _ _) (Below.refl _ _) hI rfl
    case body =>
      rintro l pre y a' W hl ⟨r, hr⟩ ⟨hp, hB⟩ rfl hlt
      obtain ⟨yk, yl⟩ := y
      obtain ⟨x, hx⟩ : ∃ x, x = d.p[yk] := ⟨_, rfl⟩
      have gx : d.p[yk]? = some x := by rw [hx]; exact List.getElem?_eq_getElem yl
      have yn : (yk : Int) < (n : Int) := by have := HN.out; omega
      have y0 : (0 : Int) ≤ (yk : Int) := Int.natCast_nonneg _
      obtain ⟨bA, oA, rfl, lA, qA⟩ := RP.out (by omega)
      have XR : Hid (∀ V, Below W0.heap.size W0 V → V.rangeAt bA (oA + yk * 65) (wcells x)) := fun V hV j u hu => by
        rw [hV.cell (p := ⟨bA, oA + yk * 65 + j, none⟩) lA]
        exact Rg.at wcells_len qA gx j u hu
      have HX := Lib.hid hx; have HPP := Lib.hid hp; have HBB := Lib.hid hB
      have X64 : Hid (x.2.length = 64) := (OK.out.p x (List.mem_of_getElem? gx)).2
      clear hx gx qA hp hr
      gi_wp2_with fail
      refine region_round (S := fun w' => Below W0.heap.size W0 w') (noDefers_of (by kernel_rfl)) (fun ⟨_, _, hz⟩ => hz) l _ (by kernel_rfl) (chain hB (below_drew W)) (fun hHeld => ?_)
      refine wpAnyH_take (i := 0) (v := ?vw1) (by simp only [List.getElem?_toArray, List.getElem?_cons_zero]; rfl) (by kernel_rfl) (by kernel_rfl) (by kernel_rfl) (fun _ _ _ h => h) (Or.inl ⟨by rfl, ?yw1⟩) (by assumption) ?rw1
      case yw1 => (intro w hSw; have cd := (HC1.out.below hSw).cell; have ci := (HC2.out.below hSw).cell; have ck := (hSw.cell (p := ⟨g, 1, none⟩) GL.out).trans GK.out; have cx := (range_tail (XR.out _ hSw)).1; (try dsimp only at hSw); go_simp; first | done | with_reducible rfl)
      simp only [Act.put, List.setIfInBounds_toArray, List.set_cons_zero, List.set_cons_succ]
      refine wpAnyH_take (i := 1) (v := ?vw2) (by simp only [List.getElem?_toArray, List.getElem?_cons_zero, List.getElem?_cons_succ]; rfl) (by kernel_rfl) (by kernel_rfl) (by kernel_rfl) (fun _ _ _ h => h) (Or.inl ⟨by rfl, ?yw2⟩) (by assumption) ?rw2
      case yw2 => (intro w hSw; have cd := (HC1.out.below hSw).cell; have ci := (HC2.out.below hSw).cell; have ck := (hSw.cell (p := ⟨g, 1, none⟩) GL.out).trans GK.out; have cx := (range_tail (XR.out _ hSw)).1; (try dsimp only at hSw); go_simp; first | done | with_reducible rfl)
      simp only [Act.put, List.setIfInBounds_toArray, List.set_cons_zero, List.set_cons_succ]
      refine wpAnyH_take (i := 2) (v := ?vw3) (by simp only [List.getElem?_toArray, List.getElem?_cons_zero, List.getElem?_cons_succ]; rfl) (by kernel_rfl) (by kernel_rfl) (by kernel_rfl) (fun _ _ _ h => h) (Or.inl ⟨by rfl, ?yw3⟩) (by assumption) ?rw3
      case yw3 => (intro w hSw; have cd := (HC1.out.below hSw).cell; have ci := (HC2.out.below hSw).cell; have ck := (hSw.cell (p := ⟨g, 1, none⟩) GL.out).trans GK.out; have cx := (range_tail (XR.out _ hSw)).1; (try dsimp only at hSw); go_simp; first | done | with_reducible rfl)
      simp only [Act.put, List.setIfInBounds_toArray, List.set_cons_zero, List.set_cons_succ]
      refine wpAnyH_take (i := 3) (v := ?vw4) (by simp only [List.getElem?_toArray, List.getElem?_cons_zero, List.getElem?_cons_succ]; rfl) (by kernel_rfl) (by kernel_rfl) (by kernel_rfl) (fun _ _ _ h => h) (Or.inl ⟨by rfl, ?yw4⟩) (by assumption) ?rw4
      case yw4 => (intro w hSw; have cd := (HC1.out.below hSw).cell; have ci := (HC2.out.below hSw).cell; have ck := (hSw.cell (p := ⟨g, 1, none⟩) GL.out).trans GK.out; have cx := (range_tail (XR.out _ hSw)).1; (try dsimp only at hSw); go_simp; first | done | with_reducible rfl)
      simp only [Act.put, List.setIfInBounds_toArray, List.set_cons_zero, List.set_cons_succ]
      refine wpAnyH_take (i := 4) (v := ?vw5) (by simp only [List.getElem?_toArray, List.getElem?_cons_zero, List.getElem?_cons_succ]; rfl) (by kernel_rfl) (by kernel_rfl) (by kernel_rfl) (fun _ _ _ h => h) (Or.inl ⟨by rfl, ?yw5⟩) (by assumption) ?rw5
      case yw5 => (intro w hSw; have cd := (HC1.out.below hSw).cell; have ci := (HC2.out.below hSw).cell; have ck := (hSw.cell (p := ⟨g, 1, none⟩) GL.out).trans GK.out; have cx := (range_tail (XR.out _ hSw)).1; (try dsimp only at hSw); go_simp; first | done | with_reducible rfl)
      simp only [Act.put, List.setIfInBounds_toArray, List.set_cons_zero, List.set_cons_succ]
      refine wpAnyH_take (i := 5) (v := ?vw6) (by simp only [List.getElem?_toArray, List.getElem?_cons_zero, List.getElem?_cons_succ]; rfl) (by kernel_rfl) (by kernel_rfl) (by kernel_rfl) (fun _ _ _ h => h) (Or.inl ⟨by rfl, ?yw6⟩) (by assumption) ?rw6
      case yw6 => (intro w hSw; have cd := (HC1.out.below hSw).cell; have ci := (HC2.out.below hSw).cell; have ck := (hSw.cell (p := ⟨g, 1, none⟩) GL.out).trans GK.out; have cx := (range_tail (XR.out _ hSw)).1; (try dsimp only at hSw); go_simp; first | done | with_reducible rfl)
      simp only [Act.put, List.setIfInBounds_toArray, List.set_cons_zero, List.set_cons_succ]
      refine wpAnyH_take (i := 6) (v := ?vw7) (by simp only [List.getElem?_toArray, List.getElem?_cons_zero, List.getElem?_cons_succ]; rfl) (by kernel_rfl) (by kernel_rfl) (by kernel_rfl) (fun _ _ _ h => h) (Or.inl ⟨by rfl, ?yw7⟩) (by assumption) ?rw7
      case yw7 => (intro w hSw; have cd := (HC1.out.below hSw).cell; have ci := (HC2.out.below hSw).cell; have ck := (hSw.cell (p := ⟨g, 1, none⟩) GL.out).trans GK.out; have cx := (range_tail (XR.out _ hSw)).1; (try dsimp only at hSw); go_simp; first | done | with_reducible rfl)
      simp only [Act.put, List.setIfInBounds_toArray, List.set_cons_zero, List.set_cons_succ]
      refine wpAnyH_take (i := 7) (v := ?vw8) (by simp only [List.getElem?_toArray, List.getElem?_cons_zero, List.getElem?_cons_succ]; rfl) (by kernel_rfl) (by kernel_rfl) (by kernel_rfl) (fun _ _ _ h => h) (Or.inl ⟨by rfl, ?yw8⟩) (by assumption) ?rw8
      case yw8 => (intro w hSw; have cd := (HC1.out.below hSw).cell; have ci := (HC2.out.below hSw).cell; have ck := (hSw.cell (p := ⟨g, 1, none⟩) GL.out).trans GK.out; have cx := (range_tail (XR.out _ hSw)).1; (try dsimp only at hSw); go_simp; first | done | with_reducible rfl)
      simp only [Act.put, List.setIfInBounds_toArray, List.set_cons_zero, List.set_cons_succ]
      refine wpAnyH_take (i := 8) (v := ?vw9) (by simp only [List.getElem?_toArray, List.getElem?_cons_zero, List.getElem?_cons_succ]; rfl) (by kernel_rfl) (by kernel_rfl) (by kernel_rfl) (fun _ _ _ h => h) (Or.inl ⟨by rfl, ?yw9⟩) (by assumption) ?rw9
      case yw9 => (intro w hSw; have cd := (HC1.out.below hSw).cell; have ci := (HC2.out.below hSw).cell; have ck := (hSw.cell (p := ⟨g, 1, none⟩) GL.out).trans GK.out; have cx := (range_tail (XR.out _ hSw)).1; (try dsimp only at hSw); go_simp; first | done | with_reducible rfl)
      simp only [Act.put, List.setIfInBounds_toArray, List.set_cons_zero, List.set_cons_succ]
      by_cases xe : (x.1 : Int) = (ki : Int)
      · have b0 : ((x.1 : Int) == (ki : Int)) = true := by simpa using xe
        have XE : Hid (x.1 = ki) := by show _ = _; omega
        clear xe
        refine wpAnyH_take (i := 9) (v := ?vw10) (by simp only [List.getElem?_toArray, List.getElem?_cons_zero, List.getElem?_cons_succ]; rfl) (by kernel_rfl) (by kernel_rfl) (by kernel_rfl) (fun _ _ _ h => h) (Or.inl ⟨by rfl, ?yw10⟩) (by assumption) ?rw10
        case yw10 => (intro w hSw; (try dsimp only at hSw); go_simp; first | done | with_reducible rfl)
        simp only [Act.put, List.setIfInBounds_toArray, List.set_cons_zero, List.set_cons_succ]
        refine wpAnyH_done (by kernel_rfl) ?_ _
        have KV : Hid (KeepsOthers W W.drew) := KeepsOthers.drew _
        have BV : Hid (Below W0.heap.size W0 W.drew) := hHeld
        clear hHeld hB HBB
        generalize W.drew = V at KV BV ⊢
        have cd := (HC1.out.below BV.out).cell
        have ck := (BV.out.cell (p := ⟨g, 1, none⟩) GL.out).trans GK.out
        have XS : Hid (V.rangeAt bA (oA + yk * 65 + 1) (scells x.2)) := (range_tail (XR.out _ BV.out)).2
        gi_wp2_with (first | refine wpListIn_load_mid rfl 67 _ rfl bA (oA + yk * 65 + 1) rfl (scells x.2) _ XS.out sectT rfl (sectL x.2) ?_ | fail)
        refine ⟨trivial, fun z => by simp [Fence.wide] at z, CallsIn.inRound l (callsIn_wide.2 ((bytes15 _ _).mono ?_))⟩
        rintro e w7 ⟨rfl, rfl⟩
        have nq := heap_alloc_new V (.cells (scells x.2).toArray 67)
        have BQ := chain_alloc (Below.refl _ V) (.cells (scells x.2).toArray 67)
        have KQ := Lib.hid (KV.out.trans (KeepsOthers.alloc V (.cells (scells x.2).toArray 67)))
        have C3 := Lib.hid ((HC3.out.below BV.out).below BQ); have C4 := Lib.hid ((HC4.out.below BV.out).below BQ)
        have l3 := (HC3.out.below BV.out).lt; have l4 := (HC4.out.below BV.out).lt
        have LV : Hid (w.heap.size ≤ V.heap.size) := Nat.le_trans ws BV.out.size
        have BW := Lib.hid (chain (chain HB.out BV.out) BQ)
        obtain ⟨nb, hnb⟩ : ∃ nb, nb = V.heap.size := ⟨_, rfl⟩
        rw [← hnb] at nq l3 l4 LV ⊢
        generalize V.alloc (.cells (scells x.2).toArray 67) = V2 at nq KQ C3 C4 BW ⊢
        have NQ := Lib.hid nq
        have nb3 : nb ≠ b3 := by omega
        have nb4 : nb ≠ b4 := by omega
        have N3 := Lib.hid nb3; have N4 := Lib.hid nb4
        have y3 := C3.out.cell; have z3 := C3.out.frozen; have y4 := C4.out.cell; have z4 := C4.out.frozen
        clear nq BQ cd ck hnb nb3 nb4 l3 l4 XR
        gi_wp2_with fail
        have B5 : Below w.heap.size w ((V2.setCell ⟨b3, 0, none⟩ (.slice (some ⟨nb, 0, none⟩) 64 64)).setCell ⟨b4, 0, none⟩ (.int .i64 0)) := (BW.out.setCell (p := ⟨b3, 0, none⟩) (by have := NE.out; show w.heap.size ≤ b3; omega) _).setCell (p := ⟨b4, 0, none⟩) (by have := NE.out; show w.heap.size ≤ b4; omega) _
        refine ⟨((KQ.out.trans (KeepsOthers.setCell _ _ _)).trans (KeepsOthers.setCell _ _ _)).from _, ⟨pre, ⟨yk, yl⟩, ⟨rfl, rfl, HPP.out, by show (d.p[yk]).1 = ki; rw [← HX.out]; exact XE.out⟩, nb, LV.out, ?_, CB.other (CB.set C3.out _) _ _ n34, CB.set (CB.other C4.out _ _ n43) _⟩, B5⟩
        show _ = some (Obj.cells (scells (d.p[yk]).2).toArray _ _)
        rw [← HX.out]
        exact (Below.heap_setCell _ _ _ _ N4.out).trans ((Below.heap_setCell _ _ _ _ N3.out).trans NQ.out)
      · have b0 : ((x.1 : Int) == (ki : Int)) = false := by simpa using xe
        have XE : Hid (¬ x.1 = ki) := fun q => xe (by omega)
        clear xe
        refine wpAnyH_take (i := 9) (v := ?vw11) (by simp only [List.getElem?_toArray, List.getElem?_cons_zero, List.getElem?_cons_succ]; rfl) (by kernel_rfl) (by kernel_rfl) (by kernel_rfl) (fun _ _ _ h => h) (Or.inl ⟨by rfl, ?yw11⟩) (by assumption) ?rw11
        case yw11 => (intro w hSw; (try dsimp only at hSw); go_simp; first | done | with_reducible rfl)
        simp only [Act.put, List.setIfInBounds_toArray, List.set_cons_zero, List.set_cons_succ]
        refine wpAnyH_done (by kernel_rfl) ?_ _
        gi_wp2_with fail
        exact ⟨(KeepsOthers.drew _).from _, below_drewW _ _, fun z hz => (List.mem_append.1 hz).elim (HPP.out z) (fun e q => by
          simp at e
          subst e
          exact XE.out (by rw [HX.out]; exact q)), chain HBB.out (below_drew W)⟩
    case done =>
      rintro D ys W hD rfl ⟨hp, hB⟩ hK
      have RD2 : Hid (dkRead d (ki : Int) = dkAt d ki) := by
        have q := dn_none d.p.length (Nat.le_refl _) hp
        rw [Nat.sub_self, List.drop_zero] at q
        show _ = _
        rw [RD.out, q]
      have HBB := Lib.hid hB; have HK := Lib.hid hK
      obtain ⟨A5, A5', c5, c5', mb5, e5, q5, r5, r6, tm, omb, oP⟩ := HD.out.var
      have CM := Lib.hid (pcell q5).2.2.1
      have TM0 := Lib.hid tm
      have MB : Hid (mb5 < W0.heap.size) := (HD.out.lt mb5 omb).2
      have TL : Hid (ki < d.t.length ∧ d.t.length ≤ 100000) := by
        have a := HKI.out
        have b := OK.out.l
        have c := OK.out.t
        exact ⟨by omega, by omega⟩
      obtain ⟨tt, htt⟩ : ∃ tt, tt = d.t.getD ki false := ⟨_, rfl⟩
      have HTT := Lib.hid htt
      clear hp hB hK e5 q5 r5 r6 tm omb oP RD htt
      gi_wp2_with fail
      refine wpIn_wide.2 ?_
      refine wp_region_noPanic ?_
      refine wp_region_held_drew (S := fun w' => Below W0.heap.size W0 w') (by kernel_rfl) (chain HBB.out (below_drew W)) (fun hHeld => ?_)
      refine wpAnyH_take (i := 0) (v := ?vw12) (by simp only [List.getElem?_toArray, List.getElem?_cons_zero]; rfl) (by kernel_rfl) (by kernel_rfl) (by kernel_rfl) (fun _ _ _ h => h) (Or.inl ⟨by rfl, ?yw12⟩) (by assumption) ?rw12
      case yw12 => (intro w hSw; have cd := (HC1.out.below hSw).cell; have ci := (HC2.out.below hSw).cell; have cm := (hSw.cell (p := ⟨g, 2, none⟩) GL.out).trans CM.out; have hlk := (TM0.out.stay (hSw.block mb5 MB.out)).look TL.out.1 TL.out.2; rw [← HTT.out] at hlk; (try dsimp only at hSw); go_simp; first | done | with_reducible rfl)
      simp only [Act.put, List.setIfInBounds_toArray, List.set_cons_zero, List.set_cons_succ]
      refine wpAnyH_take (i := 1) (v := ?vw13) (by simp only [List.getElem?_toArray, List.getElem?_cons_zero, List.getElem?_cons_succ]; rfl) (by kernel_rfl) (by kernel_rfl) (by kernel_rfl) (fun _ _ _ h => h) (Or.inl ⟨by rfl, ?yw13⟩) (by assumption) ?rw13
      case yw13 => (intro w hSw; have cd := (HC1.out.below hSw).cell; have ci := (HC2.out.below hSw).cell; have cm := (hSw.cell (p := ⟨g, 2, none⟩) GL.out).trans CM.out; have hlk := (TM0.out.stay (hSw.block mb5 MB.out)).look TL.out.1 TL.out.2; rw [← HTT.out] at hlk; (try dsimp only at hSw); go_simp; first | done | with_reducible rfl)
      simp only [Act.put, List.setIfInBounds_toArray, List.set_cons_zero, List.set_cons_succ]
      refine wpAnyH_take (i := 2) (v := ?vw14) (by simp only [List.getElem?_toArray, List.getElem?_cons_zero, List.getElem?_cons_succ]; rfl) (by kernel_rfl) (by kernel_rfl) (by kernel_rfl) (fun _ _ _ h => h) (Or.inl ⟨by rfl, ?yw14⟩) (by assumption) ?rw14
      case yw14 => (intro w hSw; have cd := (HC1.out.below hSw).cell; have ci := (HC2.out.below hSw).cell; have cm := (hSw.cell (p := ⟨g, 2, none⟩) GL.out).trans CM.out; have hlk := (TM0.out.stay (hSw.block mb5 MB.out)).look TL.out.1 TL.out.2; rw [← HTT.out] at hlk; (try dsimp only at hSw); go_simp; first | done | with_reducible rfl)
      simp only [Act.put, List.setIfInBounds_toArray, List.set_cons_zero, List.set_cons_succ]
      refine wpAnyH_take (i := 3) (v := ?vw15) (by simp only [List.getElem?_toArray, List.getElem?_cons_zero, List.getElem?_cons_succ]; rfl) (by kernel_rfl) (by kernel_rfl) (by kernel_rfl) (fun _ _ _ h => h) (Or.inl ⟨by rfl, ?yw15⟩) (by assumption) ?rw15
      case yw15 => (intro w hSw; have cd := (HC1.out.below hSw).cell; have ci := (HC2.out.below hSw).cell; have cm := (hSw.cell (p := ⟨g, 2, none⟩) GL.out).trans CM.out; have hlk := (TM0.out.stay (hSw.block mb5 MB.out)).look TL.out.1 TL.out.2; rw [← HTT.out] at hlk; (try dsimp only at hSw); go_simp; first | done | with_reducible rfl)
      simp only [Act.put, List.setIfInBounds_toArray, List.set_cons_zero, List.set_cons_succ]
      refine wpAnyH_take (i := 4) (v := ?vw16) (by simp only [List.getElem?_toArray, List.getElem?_cons_zero, List.getElem?_cons_succ]; rfl) (by kernel_rfl) (by kernel_rfl) (by kernel_rfl) (fun _ _ _ h => h) (Or.inl ⟨by rfl, ?yw16⟩) (by assumption) ?rw16
      case yw16 => (intro w hSw; have cd := (HC1.out.below hSw).cell; have ci := (HC2.out.below hSw).cell; have cm := (hSw.cell (p := ⟨g, 2, none⟩) GL.out).trans CM.out; have hlk := (TM0.out.stay (hSw.block mb5 MB.out)).look TL.out.1 TL.out.2; rw [← HTT.out] at hlk; (try dsimp only at hSw); go_simp; first | done | with_reducible rfl)
      simp only [Act.put, List.setIfInBounds_toArray, List.set_cons_zero, List.set_cons_succ]
      refine wpAnyH_take (i := 5) (v := ?vw17) (by simp only [List.getElem?_toArray, List.getElem?_cons_zero, List.getElem?_cons_succ]; rfl) (by kernel_rfl) (by kernel_rfl) (by kernel_rfl) (fun _ _ _ h => h) (Or.inl ⟨by rfl, ?yw17⟩) (by assumption) ?rw17
      case yw17 => (intro w hSw; have cd := (HC1.out.below hSw).cell; have ci := (HC2.out.below hSw).cell; have cm := (hSw.cell (p := ⟨g, 2, none⟩) GL.out).trans CM.out; have hlk := (TM0.out.stay (hSw.block mb5 MB.out)).look TL.out.1 TL.out.2; rw [← HTT.out] at hlk; (try dsimp only at hSw); go_simp; first | done | with_reducible rfl)
      simp only [Act.put, List.setIfInBounds_toArray, List.set_cons_zero, List.set_cons_succ]
      refine wpAnyH_done (by kernel_rfl) ?_ _
      refine NoPanic.normal ?_
      have KV := Lib.hid ((KeepsOthers.drew W).same D _ HK.out rfl)
      have BV : Hid (Below W0.heap.size W0 W.drew) := hHeld
      clear hHeld HBB HK
      generalize W.drew = V at KV BV ⊢
      have BW := Lib.hid (chain HB.out BV.out)
      have C3 := Lib.hid (HC3.out.below BV.out); have C4 := Lib.hid (HC4.out.below BV.out)
      have WD : Hid (w.heap.size ≤ D) := Nat.le_trans ws hD
      have D3 : Hid (b3 ≠ D) := by have := HC3.out.lt; show _ ≠ _; omega
      have D4 : Hid (b4 ≠ D) := by have := HC4.out.lt; show _ ≠ _; omega
      have ht := HTT.out.symm
      clear HTT
      cases tt with
      | true =>
        have E : Hid (dkRead d (ki : Int) = ([], 41)) := by show _ = _; rw [RD2.out, dkAt, if_pos ht]
        have y3 := C3.out.cell; have z3 := C3.out.frozen; have y4 := C4.out.cell; have z4 := C4.out.frozen
        clear ht
        gi_wp2_with fail
        have B5 : Below w.heap.size w ((V.setCell ⟨b3, 0, none⟩ (.slice none 0 0)).setCell ⟨b4, 0, none⟩ (.int .i64 41)) := (BW.out.setCell (p := ⟨b3, 0, none⟩) (by have := NE.out; show w.heap.size ≤ b3; omega) _).setCell (p := ⟨b4, 0, none⟩) (by have := NE.out; show w.heap.size ≤ b4; omega) _
        have q0 := CB.other (CB.set C3.out (.slice none 0 0)) ⟨b4, 0, none⟩ (.int .i64 41) n34
        have q1 := CB.set (CB.other C4.out ⟨b3, 0, none⟩ (.slice none 0 0) n43) (.int .i64 41)
        have hK' := ((KeepsOthers.setCell V ⟨b3, 0, none⟩ (.slice none 0 0)).trans (KeepsOthers.setCell _ ⟨b4, 0, none⟩ (.int .i64 41))).same D _ KV.out rfl
        generalize (V.setCell ⟨b3, 0, none⟩ (.slice none 0 0)).setCell ⟨b4, 0, none⟩ (.int .i64 41) = V2 at B5 q0 q1 hK' ⊢
        refine ⟨by simp, .inl ⟨_, _, rfl, run_takeDeferred hK', ?_⟩⟩
        have p0 := (cb_put (D := D) (.deferred none) q0 D3.out).cell
        have p1 := (cb_put (D := D) (.deferred none) q1 D4.out).cell
        refine ⟨.tuple #[.slice none 0 0, .int .i64 41], by simp [results, Try.results19, go_sem, p0, p1], ?_⟩
        rw [E.out]
        exact bto_none B5 WD.out hK' 41
      | false =>
        have E : Hid (dkRead d (ki : Int) = (d.l.getD ki [], 0)) := by show _ = _; rw [RD2.out, dkAt, if_neg (by rw [ht]; decide)]
        obtain ⟨bL, cL, g0, oL, neL, rL, _⟩ := HD.out.L HKI.out
        have lL := (HD.out.lt bL oL).2
        have X64 : Hid ((d.l.getD ki []).length = 64) := by
          have := HKI.out
          show _ = _
          rw [List.getD_eq_getElem?_getD, List.getElem?_eq_getElem this]
          exact OK.out.b _ (List.getElem_mem this)
        obtain ⟨L, hL⟩ : ∃ L, L = d.l.getD ki [] := ⟨_, rfl⟩
        rw [← hL] at rL E X64
        have k0 : (0 : Int) ≤ (ki : Int) := Int.natCast_nonneg _
        obtain ⟨nL, hnL⟩ : ∃ nL, nL = d.l.length := ⟨_, rfl⟩
        have k1 : (ki : Int) < (nL : Int) := by have := HKI.out; omega
        rw [← hnL] at g0
        have cd := (HC1.out.below BV.out).cell
        have ci := (HC2.out.below BV.out).cell
        have g0 := (BV.out.cell (p := ⟨g, 0, none⟩) GL.out).trans g0
        have rL := range_below rL lL BV.out
        have NG : Hid (g ≠ b3 ∧ g ≠ b4 ∧ bL ≠ b3 ∧ bL ≠ b4) := by
          have tL : ∀ b, O b → b ≠ b3 ∧ b ≠ b4 := fun b q => by
            have := NOB.out b q
            have := NE.out
            exact ⟨by omega, by omega⟩
          exact ⟨(tL g HD.out.own).1, (tL g HD.out.own).2, (tL bL oL).1, (tL bL oL).2⟩
        have LV : Hid (b1 < V.heap.size ∧ b2 < V.heap.size ∧ g < V.heap.size ∧ bL < V.heap.size) := ⟨(HC1.out.below BV.out).lt, (HC2.out.below BV.out).lt, Nat.lt_of_lt_of_le GL.out BV.out.size, Nat.lt_of_lt_of_le lL BV.out.size⟩
        clear ht hL hnL oL neL lL RD2
        gi_wp2_with fail
        refine wpIn_wide.2 ?_
        refine wp_region_noPanic ?_
        refine wp_region_held_drew (S := fun w' => w'.cell? ⟨b1, 0, none⟩ = some (.pointer (some ⟨g, 0, none⟩)) ∧ w'.cell? ⟨b2, 0, none⟩ = some (.int .i64 (ki : Int)) ∧ w'.cell? ⟨g, 0, none⟩ = some (.slice (some ⟨bL, 0, none⟩) nL cL) ∧ w'.rangeAt bL (ki * 64) (scells L)) (by kernel_rfl) ⟨cd, ci, g0, rL⟩ (fun hHeld => ?_)
        have hd := below_drew V
        replace BW := Lib.hid (chain BW.out hd)
        replace C3 := Lib.hid (C3.out.below hd); replace C4 := Lib.hid (C4.out.below hd)
        replace KV := Lib.hid ((KeepsOthers.drew V).same D _ KV.out rfl)
        have LV2 : Hid (b1 < V.drew.heap.size ∧ b2 < V.drew.heap.size ∧ g < V.drew.heap.size ∧ bL < V.drew.heap.size) := LV.out
        have HS0 : Hid (V.drew.cell? ⟨b1, 0, none⟩ = some (.pointer (some ⟨g, 0, none⟩)) ∧ V.drew.cell? ⟨b2, 0, none⟩ = some (.int .i64 (ki : Int)) ∧ V.drew.cell? ⟨g, 0, none⟩ = some (.slice (some ⟨bL, 0, none⟩) nL cL) ∧ V.drew.rangeAt bL (ki * 64) (scells L)) := hHeld
        clear hd cd ci g0 rL LV BV
        generalize V.drew = V1 at hHeld BW C3 C4 KV LV2 HS0 ⊢
        refine wpAnyH_take (i := 0) (v := ?vw18) (by simp only [List.getElem?_toArray, List.getElem?_cons_zero]; rfl) (by kernel_rfl) (by kernel_rfl) (by kernel_rfl) (fun _ _ _ h => h) (Or.inl ⟨by rfl, ?yw18⟩) (by assumption) ?rw18
        case yw18 => (intro w hSw; obtain ⟨cd, ci, g0, rL⟩ := hSw; (try dsimp only at hSw); go_simp; first | done | with_reducible rfl)
        simp only [Act.put, List.setIfInBounds_toArray, List.set_cons_zero, List.set_cons_succ]
        refine wpAnyH_take (i := 1) (v := ?vw19) (by simp only [List.getElem?_toArray, List.getElem?_cons_zero, List.getElem?_cons_succ]; rfl) (by kernel_rfl) (by kernel_rfl) (by kernel_rfl) (fun _ _ _ h => h) (Or.inl ⟨by rfl, ?yw19⟩) (by assumption) ?rw19
        case yw19 => (intro w hSw; obtain ⟨cd, ci, g0, rL⟩ := hSw; (try dsimp only at hSw); go_simp; first | done | with_reducible rfl)
        simp only [Act.put, List.setIfInBounds_toArray, List.set_cons_zero, List.set_cons_succ]
        refine wpAnyH_take (i := 2) (v := ?vw20) (by simp only [List.getElem?_toArray, List.getElem?_cons_zero, List.getElem?_cons_succ]; rfl) (by kernel_rfl) (by kernel_rfl) (by kernel_rfl) (fun _ _ _ h => h) (Or.inl ⟨by rfl, ?yw20⟩) (by assumption) ?rw20
        case yw20 => (intro w hSw; obtain ⟨cd, ci, g0, rL⟩ := hSw; (try dsimp only at hSw); go_simp; first | done | with_reducible rfl)
        simp only [Act.put, List.setIfInBounds_toArray, List.set_cons_zero, List.set_cons_succ]
        refine wpAnyH_take (i := 3) (v := ?vw21) (by simp only [List.getElem?_toArray, List.getElem?_cons_zero, List.getElem?_cons_succ]; rfl) (by kernel_rfl) (by kernel_rfl) (by kernel_rfl) (fun _ _ _ h => h) (Or.inl ⟨by rfl, ?yw21⟩) (by assumption) ?rw21
        case yw21 => (intro w hSw; obtain ⟨cd, ci, g0, rL⟩ := hSw; (try dsimp only at hSw); go_simp; first | done | with_reducible rfl)
        simp only [Act.put, List.setIfInBounds_toArray, List.set_cons_zero, List.set_cons_succ]
        refine wpAnyH_take (i := 4) (v := ?vw22) (by simp only [List.getElem?_toArray, List.getElem?_cons_zero, List.getElem?_cons_succ]; rfl) (by kernel_rfl) (by kernel_rfl) (by kernel_rfl) (fun _ _ _ h => h) (Or.inl ⟨by rfl, ?yw22⟩) (by assumption) ?rw22
        case yw22 => (intro w hSw; obtain ⟨cd, ci, g0, rL⟩ := hSw; (try dsimp only at hSw); go_simp; first | done | with_reducible rfl)
        simp only [Act.put, List.setIfInBounds_toArray, List.set_cons_zero, List.set_cons_succ]
        refine wpAnyH_take (i := 5) (v := ?vw23) (by simp only [List.getElem?_toArray, List.getElem?_cons_zero, List.getElem?_cons_succ]; rfl) (by kernel_rfl) (by kernel_rfl) (by kernel_rfl) (fun _ _ _ h => h) (Or.inl ⟨by rfl, ?yw23⟩) (by assumption) ?rw23
        case yw23 => (intro w hSw; obtain ⟨cd, ci, g0, rL⟩ := hSw; (try dsimp only at hSw); go_simp; first | done | with_reducible rfl)
        simp only [Act.put, List.setIfInBounds_toArray, List.set_cons_zero, List.set_cons_succ]
        refine wpAnyH_take (i := 6) (v := .agg (scells L).toArray) (by simp only [List.getElem?_toArray, List.getElem?_cons_zero, List.getElem?_cons_succ]; rfl) (by kernel_rfl) (by kernel_rfl) (by kernel_rfl) (fun _ _ _ h => h) ?yw24 (by assumption) ?rw24
        case yw24 => exact yieldsIf_load_mid (by rfl) 67 _ rfl bL (ki * 64) rfl (scells L) _ (fun _ h => h.2.2.2) sectT rfl (sectL L)
        simp only [Act.put, List.setIfInBounds_toArray, List.set_cons_zero, List.set_cons_succ]
        refine wpAnyH_ready (rs := [7]) (by kernel_rfl) (by simp) ?_
        refine AllReadyH.cons (by simp only [List.getElem?_toArray, List.getElem?_cons_zero, List.getElem?_cons_succ]; rfl) (fun K hK => ?_) AllReadyH.nil
        go_simp
        go_at_call 32
        refine (bytes15 _ _).mono ?_
        rintro e w7 ⟨rfl, rfl⟩
        have nq := heap_alloc_new V1 (.cells (scells L).toArray 67)
        have BQ := chain_alloc (Below.refl _ V1) (.cells (scells L).toArray 67)
        replace KV := Lib.hid ((KeepsOthers.alloc V1 (.cells (scells L).toArray 67)).same D _ KV.out rfl)
        have l3 := C3.out.lt; have l4 := C4.out.lt
        replace C3 := Lib.hid (C3.out.below BQ); replace C4 := Lib.hid (C4.out.below BQ)
        have LVW : Hid (w.heap.size ≤ V1.heap.size) := BW.out.size
        replace BW := Lib.hid (chain BW.out BQ)
        have HS1 : Hid ((V1.alloc (.cells (scells L).toArray 67)).cell? ⟨b1, 0, none⟩ = some (.pointer (some ⟨g, 0, none⟩)) ∧ (V1.alloc (.cells (scells L).toArray 67)).cell? ⟨b2, 0, none⟩ = some (.int .i64 (ki : Int)) ∧ (V1.alloc (.cells (scells L).toArray 67)).cell? ⟨g, 0, none⟩ = some (.slice (some ⟨bL, 0, none⟩) nL cL) ∧ (V1.alloc (.cells (scells L).toArray 67)).rangeAt bL (ki * 64) (scells L)) :=
          ⟨(BQ.cell (p := ⟨b1, 0, none⟩) LV2.out.1).trans HS0.out.1, (BQ.cell (p := ⟨b2, 0, none⟩) LV2.out.2.1).trans HS0.out.2.1, (BQ.cell (p := ⟨g, 0, none⟩) LV2.out.2.2.1).trans HS0.out.2.2.1, range_below HS0.out.2.2.2 LV2.out.2.2.2 BQ⟩
        obtain ⟨nb, hnb⟩ : ∃ nb, nb = V1.heap.size := ⟨_, rfl⟩
        rw [← hnb] at nq l3 l4 LVW ⊢
        generalize V1.alloc (.cells (scells L).toArray 67) = V2 at nq KV C3 C4 BW HS1 ⊢
        have NQ := Lib.hid nq
        have N3 : Hid (nb ≠ b3 ∧ nb ≠ b4) := ⟨by omega, by omega⟩
        clear nq BQ hnb l3 l4 hHeld
        go_wp2_with fail
        refine hK.out _ _ HS1.out (fun hHeld => ?_)
        clear hK K hHeld
        try simp only [Act.put, List.setIfInBounds_toArray, List.set_cons_zero, List.set_cons_succ]
        refine wpAnyH_ready (rs := [8]) (by kernel_rfl) (by simp) ?_
        refine AllReadyH.cons (by simp only [List.getElem?_toArray, List.getElem?_cons_zero, List.getElem?_cons_succ]; rfl) (fun K hK => ?_) AllReadyH.nil
        have y3 := C3.out.cell; have z3 := C3.out.frozen
        go_simp
        have n13 : b1 ≠ b3 ∧ b2 ≠ b3 ∧ b1 ≠ b4 ∧ b2 ≠ b4 := by have := NE.out; exact ⟨by omega, by omega, by omega, by omega⟩
        have HS2 : Hid ((V2.setCell ⟨b3, 0, none⟩ (.slice (some ⟨nb, 0, none⟩) 64 64)).cell? ⟨b1, 0, none⟩ = some (.pointer (some ⟨g, 0, none⟩)) ∧ (V2.setCell ⟨b3, 0, none⟩ (.slice (some ⟨nb, 0, none⟩) 64 64)).cell? ⟨b2, 0, none⟩ = some (.int .i64 (ki : Int)) ∧ (V2.setCell ⟨b3, 0, none⟩ (.slice (some ⟨nb, 0, none⟩) 64 64)).cell? ⟨g, 0, none⟩ = some (.slice (some ⟨bL, 0, none⟩) nL cL) ∧ (V2.setCell ⟨b3, 0, none⟩ (.slice (some ⟨nb, 0, none⟩) 64 64)).rangeAt bL (ki * 64) (scells L)) :=
          ⟨(World.cell?_of_block (Below.heap_setCell V2 ⟨b3, 0, none⟩ _ b1 n13.1)).trans HS1.out.1, (World.cell?_of_block (Below.heap_setCell V2 ⟨b3, 0, none⟩ _ b2 n13.2.1)).trans HS1.out.2.1, (World.cell?_of_block (Below.heap_setCell V2 ⟨b3, 0, none⟩ _ g NG.out.1)).trans HS1.out.2.2.1, range_stay HS1.out.2.2.2 (Below.heap_setCell V2 ⟨b3, 0, none⟩ _ bL NG.out.2.2.1)⟩
        refine hK.out _ _ HS2.out (fun hHeld => ?_)
        clear hK K hHeld y3 z3
        try simp only [Act.put, List.setIfInBounds_toArray, List.set_cons_zero, List.set_cons_succ]
        replace KV := Lib.hid ((KeepsOthers.setCell V2 ⟨b3, 0, none⟩ (.slice (some ⟨nb, 0, none⟩) 64 64)).same D _ KV.out rfl)
        replace C3 := Lib.hid (CB.set C3.out (.slice (some ⟨nb, 0, none⟩) 64 64))
        replace C4 := Lib.hid (CB.other C4.out ⟨b3, 0, none⟩ (.slice (some ⟨nb, 0, none⟩) 64 64) n43)
        replace BW := Lib.hid (BW.out.setCell (p := ⟨b3, 0, none⟩) (by have := NE.out; show w.heap.size ≤ b3; omega) (.slice (some ⟨nb, 0, none⟩) 64 64))
        replace NQ := Lib.hid ((Below.heap_setCell V2 ⟨b3, 0, none⟩ (.slice (some ⟨nb, 0, none⟩) 64 64) nb N3.out.1).trans NQ.out)
        generalize V2.setCell ⟨b3, 0, none⟩ (.slice (some ⟨nb, 0, none⟩) 64 64) = V3 at KV C3 C4 BW NQ HS2 ⊢
        refine wpAnyH_ready (rs := [9]) (by kernel_rfl) (by simp) ?_
        refine AllReadyH.cons (by simp only [List.getElem?_toArray, List.getElem?_cons_zero, List.getElem?_cons_succ]; rfl) (fun K hK => ?_) AllReadyH.nil
        have y4 := C4.out.cell; have z4 := C4.out.frozen
        go_simp
        have HS3 : Hid ((V3.setCell ⟨b4, 0, none⟩ (.int .i64 0)).cell? ⟨b1, 0, none⟩ = some (.pointer (some ⟨g, 0, none⟩)) ∧ (V3.setCell ⟨b4, 0, none⟩ (.int .i64 0)).cell? ⟨b2, 0, none⟩ = some (.int .i64 (ki : Int)) ∧ (V3.setCell ⟨b4, 0, none⟩ (.int .i64 0)).cell? ⟨g, 0, none⟩ = some (.slice (some ⟨bL, 0, none⟩) nL cL) ∧ (V3.setCell ⟨b4, 0, none⟩ (.int .i64 0)).rangeAt bL (ki * 64) (scells L)) :=
          ⟨(World.cell?_of_block (Below.heap_setCell V3 ⟨b4, 0, none⟩ _ b1 n13.2.2.1)).trans HS2.out.1, (World.cell?_of_block (Below.heap_setCell V3 ⟨b4, 0, none⟩ _ b2 n13.2.2.2)).trans HS2.out.2.1, (World.cell?_of_block (Below.heap_setCell V3 ⟨b4, 0, none⟩ _ g NG.out.2.1)).trans HS2.out.2.2.1, range_stay HS2.out.2.2.2 (Below.heap_setCell V3 ⟨b4, 0, none⟩ _ bL NG.out.2.2.2)⟩
        refine hK.out _ _ HS3.out (fun hHeld => ?_)
        clear hK K hHeld y4 z4
        try simp only [Act.put, List.setIfInBounds_toArray, List.set_cons_zero, List.set_cons_succ]
        replace KV := Lib.hid ((KeepsOthers.setCell V3 ⟨b4, 0, none⟩ (.int .i64 0)).same D _ KV.out rfl)
        have q0 := CB.other C3.out ⟨b4, 0, none⟩ (.int .i64 0) n34
        have q1 := CB.set C4.out (.int .i64 0)
        replace BW := Lib.hid (BW.out.setCell (p := ⟨b4, 0, none⟩) (by have := NE.out; show w.heap.size ≤ b4; omega) (.int .i64 0))
        replace NQ := Lib.hid ((Below.heap_setCell V3 ⟨b4, 0, none⟩ (.int .i64 0) nb N3.out.2).trans NQ.out)
        generalize V3.setCell ⟨b4, 0, none⟩ (.int .i64 0) = V4 at KV q0 q1 BW NQ ⊢
        refine wpAnyH_done (by kernel_rfl) ?_ _
        refine NoPanic.normal ?_
        gi_wp2_with fail
        refine ⟨by simp, .inl ⟨_, _, rfl, run_takeDeferred KV.out, ?_⟩⟩
        have p0 := (cb_put (D := D) (.deferred none) q0 D3.out).cell
        have p1 := (cb_put (D := D) (.deferred none) q1 D4.out).cell
        refine ⟨.tuple #[.slice (some ⟨nb, 0, none⟩) 64 64, .int .i64 0], by simp [results, Try.results19, go_sem, p0, p1], ?_⟩
        rw [E.out]
        exact bto_some X64.out BW.out NQ.out LVW.out WD.out KV.out 0
    case stop =>
      rintro D q pre W hD ⟨j, hj, hpre⟩ ⟨⟨pre', y, ⟨rfl, e1, e2, e3⟩, nb, h1, h2, h3, h4⟩, hB⟩ hK
      have E : Hid (dkRead d (ki : Int) = ((d.p[y]).2, 0)) := by
        show _ = _
        rw [RD.out, dn_stop hj (hpre.symm.trans e1) e2 e3]
      have X64 : Hid ((d.p[y]).2.length = 64) := (OK.out.p _ (List.getElem_mem y.2)).2
      have D3 : Hid (b3 ≠ D) := by have := HC3.out.lt; show _ ≠ _; omega
      have D4 : Hid (b4 ≠ D) := by have := HC4.out.lt; show _ ≠ _; omega
      have WD : Hid (w.heap.size ≤ D) := Nat.le_trans ws hD
      clear hpre e1 e2 e3 hj
      gi_wp2_with fail
      refine ⟨by simp, .inl ⟨_, _, rfl, run_takeDeferred hK, ?_⟩⟩
      have p0 := (cb_put (D := D) (.deferred none) h3 D3.out).cell
      have p1 := (cb_put (D := D) (.deferred none) h4 D4.out).cell
      refine ⟨.tuple #[.slice (some ⟨nb, 0, none⟩) 64 64, .int .i64 0], by simp [results, Try.results19, go_sem, p0, p1], ?_⟩
      rw [E.out]
      exact bto_some X64.out hB h2 h1 WD.out hK 0

end Go.Proofs.Ytpdedeaejlkokaa
