/-
  What the document's own functions of layer 16 answer: Put.
-/
import Derived.Test.YtjokaaekliapmaaDoorQRef
import Derived.Test.YtjokaaekliapmaaDoorRHeld
namespace Go.Proofs.YtjokaaekliapmaaDoor
open Go.RowKit

/-- A sector in a variable. -/
def QB (w : World) (z : Nat) (s : Sec) (A : Option Addr) (n c : Nat) : Prop := w.heap[z]? = some (.cells #[.int .i64 s.g, .int .i64 s.p, .int .i64 s.t, .int .i64 s.k, .slice A n c] 24 (0, 0))
theorem QB.lt {w : World} {z n c : Nat} {s : Sec} {A : Option Addr} (H : QB w z s A n c) : z < w.heap.size := (Array.getElem?_eq_some_iff.1 H).1
theorem QB.below {w w' : World} {z n c : Nat} {s : Sec} {A : Option Addr} (H : QB w z s A n c) (hb : Below w.heap.size w w') : QB w' z s A n c := (hb.block z H.lt).trans H
theorem QB.new (w : World) (s : Sec) (A : Option Addr) (n c : Nat) : QB (w.alloc (.cells #[.int .i64 s.g, .int .i64 s.p, .int .i64 s.t, .int .i64 s.k, .slice A n c] 24)) w.heap.size s A n c := heap_alloc_new w _
theorem QB.cells {w : World} {z n c : Nat} {s : Sec} {A : Option Addr} (H : QB w z s A n c) : w.cell? ⟨z, 0, none⟩ = some (.int .i64 s.g) ∧ w.cell? ⟨z, 1, none⟩ = some (.int .i64 s.p) ∧ w.cell? ⟨z, 2, none⟩ = some (.int .i64 s.t) ∧ w.cell? ⟨z, 3, none⟩ = some (.int .i64 s.k) ∧ w.cell? ⟨z, 4, none⟩ = some (.slice A n c) := by
  refine ⟨?_, ?_, ?_, ?_, ?_⟩ <;> (rw [Lib.cell_of_heap H]; rfl)

set_option maxHeartbeats 8000000 in
set_option maxRecDepth 100000 in
theorem rput16 (s : Sec) (A : Option Addr) (n c : Nat) (w : World) (hn : n = s.b.length) (hR : Rg bcells w A s.b) :
    Calls Tryd.prog 15 #[secv s A n c] w (BOwn (putQ s) w) := by
  have RA := Lib.hid hR; have LN := Lib.hid hn
  have CR : Hid (∀ w, Calls Tryd.prog 13 #[secv s A n c] w fun e w' => e = .returned (.bool (rightQ s)) ∧ Below w.heap.size w w') := fun w => rright16 s A n c w hn
  clear hR hn
  rcases ok : rightQ s with _ | _
  · have E := Lib.hid (putq_no ok)
    rw [ok] at CR
    clear ok
    obtain ⟨g, p, t, k, b⟩ := s
    unfold secv at CR ⊢
    dsimp only at CR ⊢
    go_enter Tryd.func15, Tryd.ntmps15
    go_wp2_with fail
    refine (CR.out _).mono ?_
    rintro e w1 ⟨rfl, hb⟩
    have B1 := Lib.hid (chain (chain_alloc (Below.refl _ w) _) hb)
    clear hb
    go_wp2_with fail
    go_ret
    exact ⟨_, rfl, by rw [E.out]; exact World.ownsRow_nil _ _ _ _, B1.out⟩
  have E := Lib.hid (putq_yes ok)
  obtain ⟨z1, z2, z3, z4, z5, z6, z7, z8, z9, z10⟩ := right_q.1 ok
  rw [ok] at CR
  clear ok
  obtain ⟨g, p, t, k, b⟩ := s
  dsimp only at z1 z2 z3 z4 z5 z6 z7 z8 z9 z10 RA LN
  obtain ⟨G, rfl⟩ : ∃ G : Nat, g = G := ⟨g.toNat, by omega⟩
  obtain ⟨P, rfl⟩ : ∃ P : Nat, p = P := ⟨p.toNat, by omega⟩
  obtain ⟨T, rfl⟩ : ∃ T : Nat, t = T := ⟨t.toNat, by omega⟩
  obtain ⟨K, rfl⟩ : ∃ K : Nat, k = K := ⟨k.toNat, by omega⟩
  have n50 : n ≤ 50 := by rw [LN.out]; exact z10
  have CG : Hid (∀ w, Calls Tryd.prog 24 #[.int .i64 (G : Int), .int .i64 8] w (BOwn (beN 8 G) w)) := fun w => rnumber16 G 8 w (by omega) (by decide) (by decide)
  have CP : Hid (∀ w, Calls Tryd.prog 24 #[.int .i64 (P : Int), .int .i64 2] w (BOwn (beN 2 P) w)) := fun w => rnumber16 P 2 w (by omega) (by decide) (by decide)
  have CK : Hid (∀ w, Calls Tryd.prog 24 #[.int .i64 (K : Int), .int .i64 2] w (BOwn (beN 2 K) w)) := fun w => rnumber16 K 2 w (by omega) (by decide) (by decide)
  have T32 : (T : Int) ≤ 32 := z6
  have T0 : (0 : Int) ≤ (T : Int) := by omega
  have TB : Hid ((T : Int) = bz (UInt8.ofNat (T / 256 ^ 0))) := by show _ = _; unfold bz; rw [UInt8.toNat_ofNat']; omega
  have NB : Hid ((n : Int) = bz (UInt8.ofNat (n / 256 ^ 0))) := by show _ = _; unfold bz; rw [UInt8.toNat_ofNat']; omega
  have E2 : Hid (putQ ⟨(G : Int), (P : Int), (T : Int), (K : Int), b⟩ = ((((((beN 8 G ++ beN 2 P) ++ [UInt8.ofNat (T / 256 ^ 0)]) ++ beN 2 K) ++ [UInt8.ofNat (n / 256 ^ 0)]) ++ b) ++ List.replicate (50 - n) 0)) := by
    show _ = _
    rw [E.out, LN.out]
    unfold laidQ headQ
    simp [beN]
  have LE : Hid ((putQ ⟨(G : Int), (P : Int), (T : Int), (K : Int), b⟩).length = 8 + 2 + 1 + 2 + 1 + n + (50 - n)) := by
    show _ = _
    rw [E.out, laidq_len z10]; omega
  obtain ⟨m, hm⟩ : ∃ m, m = 50 - n := ⟨_, rfl⟩
  have em : (50 : Int) - (n : Int) = (m : Int) := by omega
  rw [← hm] at E2 LE
  have HM : Hid (n + m = 50) := by show n + m = 50; omega
  unfold secv at CR ⊢
  dsimp only at CR ⊢
  clear z1 z2 z3 z4 z5 z6 z7 z8 z9 z10 hm
  go_enter Tryd.func15, Tryd.ntmps15
  go_wp2_with fail
  have Q0 := QB.new w ⟨(G : Int), (P : Int), (T : Int), (K : Int), b⟩ A n c
  have hb := chain_alloc (Below.refl _ w) (.cells #[.int .i64 (G : Int), .int .i64 (P : Int), .int .i64 (T : Int), .int .i64 (K : Int), .slice A n c] 24)
  obtain ⟨z, hz⟩ : ∃ z, z = w.heap.size := ⟨_, rfl⟩
  dsimp only at Q0
  rw [← hz] at Q0 ⊢
  generalize w.alloc (.cells #[.int .i64 (G : Int), .int .i64 (P : Int), .int .i64 (T : Int), .int .i64 (K : Int), .slice A n c] 24) = w1 at hb Q0 ⊢
  have BW := Lib.hid hb
  have QX := Lib.hid Q0
  have ZL : Hid (z < w1.heap.size) := Q0.lt
  have B1 : Hid (Below w1.heap.size w1 w1) := Below.refl _ _
  clear hb Q0 hz
  refine (CR.out _).mono ?_
  rintro e w2 ⟨rfl, hb⟩
  have B2 := Lib.hid (chain B1.out hb)
  replace QX := Lib.hid (QX.out.below hb)
  clear hb B1 CR
  obtain ⟨c0, c1, c2, c3, c4⟩ := QX.out.cells
  have zl := QX.out.lt
  dsimp only at c0 c1 c2 c3 c4
  go_wp2_with fail
  refine wp_region_noPanic ?_
  refine wp_region_held_drew (S := fun w' => Below w2.drew.heap.size w2.drew w') (by kernel_rfl) (Below.refl _ _) (fun hHeld => ?_)
  have hd := below_drew w2
  replace c0 := (hd.cell (p := ⟨z, 0, none⟩) zl).trans c0
  replace c1 := (hd.cell (p := ⟨z, 1, none⟩) zl).trans c1
  replace zl := Nat.lt_of_lt_of_le zl hd.size
  replace QX := Lib.hid (QX.out.below hd)
  have B3 := Lib.hid (chain B2.out hd)
  generalize w2.drew = w3 at hd c0 c1 zl QX B3 hHeld ⊢
  clear hHeld hd B2 c2 c3 c4
  have hHeld : Below w3.heap.size w3 w3 := Below.refl _ _
  refine wpAnyH_take (i := 0) (v := ?vv1) (by simp only [List.getElem?_toArray, List.getElem?_cons_zero]; rfl) (by kernel_rfl) (by kernel_rfl) (by kernel_rfl) (fun _ _ _ h => h) (Or.inl ⟨by rfl, ?yy1⟩) (by assumption) ?rr1
  case yy1 => (intro w' hSw; have c0 := (hSw.cell (p := ⟨z, 0, none⟩) zl).trans c0; have c1 := (hSw.cell (p := ⟨z, 1, none⟩) zl).trans c1; go_simp; first | done | with_reducible rfl)
  simp only [Act.put, List.setIfInBounds_toArray, List.set_cons_zero, List.set_cons_succ]
  refine wpAnyH_take (i := 1) (v := ?vv2) (by simp only [List.getElem?_toArray, List.getElem?_cons_zero, List.getElem?_cons_succ]; rfl) (by kernel_rfl) (by kernel_rfl) (by kernel_rfl) (fun _ _ _ h => h) (Or.inl ⟨by rfl, ?yy2⟩) (by assumption) ?rr2
  case yy2 => (intro w' hSw; have c0 := (hSw.cell (p := ⟨z, 0, none⟩) zl).trans c0; have c1 := (hSw.cell (p := ⟨z, 1, none⟩) zl).trans c1; go_simp; first | done | with_reducible rfl)
  simp only [Act.put, List.setIfInBounds_toArray, List.set_cons_zero, List.set_cons_succ]
  refine wpAnyH_take (i := 3) (v := ?vv3) (by simp only [List.getElem?_toArray, List.getElem?_cons_zero, List.getElem?_cons_succ]; rfl) (by kernel_rfl) (by kernel_rfl) (by kernel_rfl) (fun _ _ _ h => h) (Or.inl ⟨by rfl, ?yy3⟩) (by assumption) ?rr3
  case yy3 => (intro w' hSw; have c0 := (hSw.cell (p := ⟨z, 0, none⟩) zl).trans c0; have c1 := (hSw.cell (p := ⟨z, 1, none⟩) zl).trans c1; go_simp; first | done | with_reducible rfl)
  simp only [Act.put, List.setIfInBounds_toArray, List.set_cons_zero, List.set_cons_succ]
  refine wpAnyH_take (i := 4) (v := ?vv4) (by simp only [List.getElem?_toArray, List.getElem?_cons_zero, List.getElem?_cons_succ]; rfl) (by kernel_rfl) (by kernel_rfl) (by kernel_rfl) (fun _ _ _ h => h) (Or.inl ⟨by rfl, ?yy4⟩) (by assumption) ?rr4
  case yy4 => (intro w' hSw; have c0 := (hSw.cell (p := ⟨z, 0, none⟩) zl).trans c0; have c1 := (hSw.cell (p := ⟨z, 1, none⟩) zl).trans c1; go_simp; first | done | with_reducible rfl)
  simp only [Act.put, List.setIfInBounds_toArray, List.set_cons_zero, List.set_cons_succ]
  have D3 : Hid (Below w3.heap.size w3 w3) := Below.refl _ _
  refine wpAnyH_ready (rs := [2]) (by kernel_rfl) (by simp) ?_
  refine AllReadyH.cons (by simp only [List.getElem?_toArray, List.getElem?_cons_zero, List.getElem?_cons_succ]; rfl) (fun K hK => ?_) AllReadyH.nil
  go_simp
  go_at_call 24
  (with_reducible refine (CG.out _).mono ?_)
  rintro e w4 ⟨v1, rfl, ho, hb⟩
  have o1 := own_base ho (B := w3.heap.size) (D3.out.size)
  rw [beN_len] at o1
  have D4 := Lib.hid (chain D3.out hb)
  go_wp2_with fail
  refine hK.out _ _ D4.out (fun hHeld => ?_)
  clear hK K ho
  try simp only [Act.put, List.setIfInBounds_toArray, List.set_cons_zero, List.set_cons_succ]
  replace QX := Lib.hid (QX.out.below hb)
  clear hb D3
  refine wpAnyH_ready (rs := [5]) (by kernel_rfl) (by simp) ?_
  refine AllReadyH.cons (by simp only [List.getElem?_toArray, List.getElem?_cons_zero, List.getElem?_cons_succ]; rfl) (fun K hK => ?_) AllReadyH.nil
  go_simp
  go_at_call 24
  (with_reducible refine (CP.out _).mono ?_)
  rintro e w5 ⟨v2, rfl, ho, hb⟩
  have o2 := own_base ho (B := w3.heap.size) (D4.out.size)
  rw [beN_len] at o2
  have D5 := Lib.hid (chain D4.out hb)
  go_wp2_with fail
  refine hK.out _ _ D5.out (fun hHeld => ?_)
  clear hK K ho
  try simp only [Act.put, List.setIfInBounds_toArray, List.set_cons_zero, List.set_cons_succ]
  replace QX := Lib.hid (QX.out.below hb)
  replace o1 := own_belowE o1 hb
  clear hb D4
  obtain ⟨A2, m2, rfl, y1, r2, _, _⟩ := own_cap bcells_len (by decide) o2
  obtain ⟨v3, w6, run3, o3, b3⟩ := b_append_run (m := 2) o1 A2 m2 r2 y1 (by omega) D5.out.size
  clear y1 r2 o1 o2
  refine wpAnyH_ready (rs := [6]) (by kernel_rfl) (by simp) ?_
  refine AllReadyH.cons (by simp only [List.getElem?_toArray, List.getElem?_cons_zero, List.getElem?_cons_succ]; rfl) (fun K hK => ?_) AllReadyH.nil
  refine step_append_run rfl _ _ _ _ rfl _ _ rfl rfl v3 run3 ?_
  refine hK.out _ _ (D5.out.trans b3) (fun hHeld => ?_)
  clear hK K
  try simp only [Act.put, List.setIfInBounds_toArray, List.set_cons_zero, List.set_cons_succ]
  refine wpAnyH_take (i := 7) (v := ?vv5) (by simp only [List.getElem?_toArray, List.getElem?_cons_zero, List.getElem?_cons_succ]; rfl) (by kernel_rfl) (by kernel_rfl) (by kernel_rfl) (fun _ _ _ h => h) (Or.inl ⟨by rfl, ?yy5⟩) (by assumption) ?rr5
  case yy5 => (intro w' hSw; go_simp; first | done | with_reducible rfl)
  simp only [Act.put, List.setIfInBounds_toArray, List.set_cons_zero, List.set_cons_succ]
  refine wpAnyH_done (by kernel_rfl) ?_ _
  refine NoPanic.normal ?_
  have D6 := D5.out.trans b3
  have QW : QB w6 z ⟨(G : Int), (P : Int), (T : Int), (K : Int), b⟩ A n c := (b3.block z zl).trans QX.out
  have B6 := Lib.hid (B3.out.trans (D6.mono B3.out.size))
  have O6 := Lib.hid (own_base o3 B3.out.size)
  replace QX := Lib.hid QW
  clear hHeld QW D6 D5 o3 b3 run3 c0 c1 zl B3
  have QX6 := QX
  clear QX
  obtain ⟨v7, w7, run7, on, bn⟩ := b_append_run (m := 1) (O6.out.alloc (.cells #[.int .u8 (T : Int)] 5)) (some ⟨w6.heap.size, 0, none⟩) 1 (rg_byte w6 _ TB.out) rfl (by omega) (by have := B6.out.size; simp; omega)
  have hb : Below w1.heap.size w6 w7 := ((Below.refl _ w6).alloc B6.out.size _).trans bn
  have B7 := Lib.hid (B6.out.trans hb)
  have QX7 : Hid (QB w7 z ⟨(G : Int), (P : Int), (T : Int), (K : Int), b⟩ A n c) := (hb.block z ZL.out).trans QX6.out
  have O7 := Lib.hid on
  clear on bn hb
  obtain ⟨c0, c1, c2, c3, c4⟩ := QX6.out.cells
  have cl := QX6.out.lt
  dsimp only at c0 c1 c2 c3 c4
  obtain ⟨d0, d1, d2, d3, d4⟩ := QX7.out.cells
  have dl := QX7.out.lt
  dsimp only at d0 d1 d2 d3 d4
  go_wp2_with (at_builtin; refine Lib.wpList_append_run _ rfl _ _ _ _ rfl _ _ rfl rfl _ _ run7 ?_)
  clear c0 c1 c2 c3 c4 cl d0 d1 d2 d3 d4 dl run7
  refine (CK.out _).mono ?_
  rintro e w8 ⟨v8, rfl, ho, hb⟩
  obtain ⟨A8, m8, rfl, y8, r8, _, _⟩ := own_cap bcells_len (by decide) ho
  have R8 := Lib.hid r8
  rw [beN_len]
  have B8 := Lib.hid (chain B7.out hb)
  have QX8 := Lib.hid (QX7.out.below hb)
  have O8 := Lib.hid (own_belowE O7.out hb)
  clear hb ho y8 r8 QX6 QX7 B7 O7
  obtain ⟨v9, w9, run9, on, bn⟩ := b_append_run (m := 2) O8.out A8 m8 R8.out (by rw [beN_len]) (by omega) B8.out.size
  have hb : Below w1.heap.size w8 w9 := bn
  have B9 := Lib.hid (B8.out.trans hb)
  have QX9 : Hid (QB w9 z ⟨(G : Int), (P : Int), (T : Int), (K : Int), b⟩ A n c) := (hb.block z ZL.out).trans QX8.out
  have O9 := Lib.hid on
  clear on bn hb
  obtain ⟨v10, w10, run10, on, bn⟩ := b_append_run (m := 1) (O9.out.alloc (.cells #[.int .u8 (n : Int)] 5)) (some ⟨w9.heap.size, 0, none⟩) 1 (rg_byte w9 _ NB.out) rfl (by omega) (by have := B9.out.size; simp; omega)
  have hb : Below w1.heap.size w9 w10 := ((Below.refl _ w9).alloc B9.out.size _).trans bn
  have B10 := Lib.hid (B9.out.trans hb)
  have QX10 : Hid (QB w10 z ⟨(G : Int), (P : Int), (T : Int), (K : Int), b⟩ A n c) := (hb.block z ZL.out).trans QX9.out
  have O10 := Lib.hid on
  clear on bn hb
  obtain ⟨v11, w11, run11, on, bn⟩ := b_append_run (m := n) O10.out A c (RA.out.below (chain BW.out B10.out)) LN.out (by omega) B10.out.size
  have hb : Below w1.heap.size w10 w11 := bn
  have B11 := Lib.hid (B10.out.trans hb)
  have QX11 : Hid (QB w11 z ⟨(G : Int), (P : Int), (T : Int), (K : Int), b⟩ A n c) := (hb.block z ZL.out).trans QX10.out
  have O11 := Lib.hid on
  clear on bn hb
  obtain ⟨v12, w12, run12, on, bn⟩ := b_pad_run (m := m) O11.out (by omega) (by omega) B11.out.size
  have hb : Below w1.heap.size w11 w12 := bn
  have B12 := Lib.hid (B11.out.trans hb)
  have QX12 : Hid (QB w12 z ⟨(G : Int), (P : Int), (T : Int), (K : Int), b⟩ A n c) := (hb.block z ZL.out).trans QX11.out
  have O12 := Lib.hid on
  clear on bn hb
  obtain ⟨c0, c1, c2, c3, c4⟩ := QX8.out.cells
  have cl := QX8.out.lt
  dsimp only at c0 c1 c2 c3 c4
  obtain ⟨d0, d1, d2, d3, d4⟩ := QX9.out.cells
  have dl := QX9.out.lt
  dsimp only at d0 d1 d2 d3 d4
  obtain ⟨f0, f1, f2, f3, f4⟩ := QX10.out.cells
  have fl := QX10.out.lt
  dsimp only at f0 f1 f2 f3 f4
  obtain ⟨h0, h1, h2, h3, h4⟩ := QX11.out.cells
  have hl := QX11.out.lt
  dsimp only at h0 h1 h2 h3 h4
  go_wp2_with (at_builtin; first | (refine Lib.wpList_append_run _ rfl _ _ _ _ rfl _ _ rfl rfl _ _ run9 ?_) | (refine Lib.wpList_append_run _ rfl _ _ _ _ rfl _ _ rfl rfl _ _ run10 ?_) | (refine Lib.wpList_append_run _ rfl _ _ _ _ rfl _ _ rfl rfl _ _ run11 ?_) | (refine Lib.wpList_append_run _ rfl _ _ _ _ rfl _ _ rfl rfl _ _ run12 ?_))
  go_ret
  exact ⟨_, rfl, by rw [LE.out, E2.out]; exact own_base O12.out BW.out.size, chain BW.out B12.out⟩

end Go.Proofs.YtjokaaekliapmaaDoor
