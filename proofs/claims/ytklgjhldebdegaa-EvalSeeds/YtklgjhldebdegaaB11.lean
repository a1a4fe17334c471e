/-
  What the laws of this seat stand on, part 11.
-/
import Derived.Test.YtklgjhldebdegaaB10
import Derived.Laws.StructEq
namespace Go.Proofs.Ytklgjhldebdegaa
open Go.RowKit

/-- A party that closes, in a variable. -/
def ClB (w : World) (g : Nat) (a : Int) (A : Option Addr) (n c gs ku : Nat) : Prop := w.heap[g]? = some (.cells #[.int .i64 a, .slice A n c, .slice (some ⟨gs, 0, none⟩) ku ku] 146 (0, 0))
theorem ClB.lt {w : World} {g : Nat} {a : Int} {A : Option Addr} {n c gs ku : Nat} (H : ClB w g a A n c gs ku) : g < w.heap.size := (Array.getElem?_eq_some_iff.1 H).1
theorem ClB.kept {w w' : World} {g : Nat} {a : Int} {A : Option Addr} {n c gs ku : Nat} (H : ClB w g a A n c gs ku) (e : w'.heap[g]? = w.heap[g]?) : ClB w' g a A n c gs ku := e.trans H
theorem ClB.cells {w : World} {g : Nat} {a : Int} {A : Option Addr} {n c gs ku : Nat} (H : ClB w g a A n c gs ku) :
    w.cell? ⟨g, 0, none⟩ = some (.int .i64 a) ∧ w.cell? ⟨g, 1, none⟩ = some (.slice A n c) ∧ w.cell? ⟨g, 2, none⟩ = some (.slice (some ⟨gs, 0, none⟩) ku ku) := by
  refine ⟨?_, ?_, ?_⟩ <;> (rw [Lib.cell_of_heap H]; rfl)
theorem ClB.frozen {w : World} {g : Nat} {a : Int} {A : Option Addr} {n c gs ku : Nat} (H : ClB w g a A n c gs ku) (j : Nat) : w.frozen? ⟨g, j, none⟩ = false := Lib.frozen_of_heap H j
theorem ClB.set {w : World} {g : Nat} {a : Int} {A : Option Addr} {n c gs ku : Nat} (H : ClB w g a A n c gs ku) (A' : Option Addr) (n' c' : Nat) : ClB (w.setCell ⟨g, 1, none⟩ (.slice A' n' c')) g a A' n' c' gs ku := Lib.heap_setCell_same H _
/-- How things stand when a party has closed k gates. -/
def ClJ (w0 : World) (g gs : Nat) (a : Int) (ss : List UInt64) (ku : Nat) (at' : Nat → Nat) (cl : Nat → UInt64) (O : Nat → Prop) (k : Nat) (w : World) : Prop :=
  ∃ A n c, ClB w g a A n c gs ku ∧ n + 2 * k = ss.length ∧ n ≤ c ∧ Rg ucells w0 A (ss.drop (2 * k)) ∧ RB w gs (accL at' cl (noughts ku) k) ∧ Below w0.heap.size w0 w ∧ w0.heap.size ≤ g ∧ w0.heap.size ≤ gs ∧ g ≠ gs ∧ ∀ b, O b ↔ (b = g ∨ b = gs)
theorem ClJ.owns {w0 : World} {g gs : Nat} {a : Int} {ss : List UInt64} {ku : Nat} {at' : Nat → Nat} {cl : Nat → UInt64} {O : Nat → Prop} {k : Nat} {w : World} (h : ClJ w0 g gs a ss ku at' cl O k w) : ∀ b, O b → w0.heap.size ≤ b ∧ b < w.heap.size := fun b q => by
  obtain ⟨A, n, c, h1, h2, h3, h4, h5, h6, h7, h8, h9, h10⟩ := h
  rcases (h10 b).1 q with rfl | rfl
  · exact ⟨h7, h1.lt⟩
  · exact ⟨h8, h5.lt⟩
theorem ClJ.below {w0 : World} {g gs : Nat} {a : Int} {ss : List UInt64} {ku : Nat} {at' : Nat → Nat} {cl : Nat → UInt64} {O : Nat → Prop} {k : Nat} {w w' : World} (h : ClJ w0 g gs a ss ku at' cl O k w) (hb : Below w.heap.size w w') : ClJ w0 g gs a ss ku at' cl O k w' := by
  obtain ⟨A, n, c, h1, h2, h3, h4, h5, h6, h7, h8, h9, h10⟩ := h
  exact ⟨A, n, c, h1.kept (hb.block g h1.lt), h2, h3, h4, h5.below hb, chain h6 hb, h7, h8, h9, h10⟩

set_option maxHeartbeats 4000000 in
set_option maxRecDepth 100000 in
theorem close13 (w0 : World) (g gs : Nat) (a : Int) (ss : List UInt64) (ku : Nat) (at' : Nat → Nat) (cl : Nat → UInt64) (O : Nat → Prop) (k : Nat) (w : World) (p : Nat) (tx tw : Int) (tr : Tp) (d e : UInt64)
    (hk : 2 * k + 1 < ss.length) (_hs : ss.length ≤ 100000) (hp : p < ku) (hat : at' k = p) (hd' : ss[2 * k]? = some d) (he : ss[2 * k + 1]? = some e) (hcl : cl k = closeU a ⟨d, e⟩ tr) (hJ : ClJ w0 g gs a ss ku at' cl O k w) :
    Calls Try.prog 107 #[.pointer (some ⟨g, 0, none⟩), .int .i64 (p : Int), .agg #[.int .i64 tx, .int .i64 tw], .agg #[.int .u64 (uz tr.a), .int .u64 (uz tr.b), .int .u64 (uz tr.c)]] w fun e w' => e = .returned (.tuple #[]) ∧ ∃ O', ClJ w0 g gs a ss ku at' cl O' (k + 1) w' ∧ KeepO w0.heap.size O w w' ∧ ∀ b, O' b → O b ∨ w.heap.size ≤ b := by
  obtain ⟨A, n, c, h1, h2, h3, h4, h5, h6, h7, h8, h9, h10⟩ := hJ
  have n2 : 2 ≤ n := by omega
  obtain ⟨A', hsl, hrg⟩ := u_two_off A n c n2 h3
  have R' : Hid (Rg ucells w0 A' (ss.drop (2 * (k + 1)))) := by
    show Rg _ _ _ _
    have := hrg w0 _ h4 (by rw [List.length_drop]; omega)
    rw [List.drop_drop] at this
    exact this
  obtain ⟨bL, oL, rfl, lL, qL⟩ := h4 (by rw [List.length_drop]; omega)
  have i0 : (ss.drop (2 * k))[0]? = some d := by rw [List.getElem?_drop]; exact hd'
  have i1 : (ss.drop (2 * k))[1]? = some e := by rw [List.getElem?_drop]; exact he
  have y0 : w0.cell? ⟨bL, oL, none⟩ = some (.int .u64 (uz d)) := su_cell qL i0
  have y1 : w0.cell? ⟨bL, oL + 1, none⟩ = some (.int .u64 (uz e)) := su_cell qL i1
  obtain ⟨ov, hov⟩ : ∃ ov : On, ov = ⟨d, e⟩ := ⟨_, rfl⟩
  rw [show d = ov.d by rw [hov]] at y0
  rw [show e = ov.e by rw [hov]] at y1
  rw [← hov] at hcl
  obtain ⟨m, hm⟩ : ∃ m, m = n - 2 := ⟨_, rfl⟩
  obtain ⟨mc, hmc⟩ : ∃ mc, mc = c - 2 := ⟨_, rfl⟩
  rw [← hm, ← hmc] at hsl
  have M1 : Hid (m + 2 * (k + 1) = ss.length) := by show _ = _; omega
  have M2 : Hid (m ≤ mc) := by show _ ≤ _; omega
  obtain ⟨cv, hcv⟩ : ∃ cv, cv = closeU a ov tr := ⟨_, rfl⟩
  have CC : Hid (∀ w, Calls Try.prog 110 #[.int .i64 a, .agg #[.int .u64 (uz ov.d), .int .u64 (uz ov.e)], .agg #[.int .u64 (uz tr.a), .int .u64 (uz tr.b), .int .u64 (uz tr.c)]] w fun e w' => e = .returned (.int .u64 (uz cv)) ∧ Below w.heap.size w w') := fun w => by rw [hcv]; exact close12 a ov tr w
  have CV : Hid (cl k = cv) := hcl.trans hcv.symm
  have AV := Lib.hid hat
  obtain ⟨old, hold⟩ : ∃ old, old = (accL at' cl (noughts ku) k).getD p 0 := ⟨_, rfl⟩
  obtain ⟨nv, hnv⟩ : ∃ nv, nv = old + cv := ⟨_, rfl⟩
  have OLD := Lib.hid hold; have NV := Lib.hid hnv
  have e1 : IntKind.u64.wrap (uz old + uz cv) = uz nv := by rw [hnv]; exact uz_add _ _
  have E1 := Lib.hid e1
  have CG := Lib.hid h1; have RS := Lib.hid h5; have BB := Lib.hid h6; have G0 := Lib.hid h7; have GS0 := Lib.hid h8; have GN := Lib.hid h9; have OX := Lib.hid h10
  have HSL := Lib.hid hsl
  obtain ⟨g0, g1, g2⟩ := h1.cells
  have lg := h1.lt
  have x0 := (h6.cell (p := ⟨bL, oL, none⟩) lL).trans y0
  have x1 := (h6.cell (p := ⟨bL, oL + 1, none⟩) lL).trans y1
  have lx := Nat.lt_of_lt_of_le lL h6.size
  have n0i : (0 : Int) < (n : Int) := by omega
  have n1i : (1 : Int) < (n : Int) := by omega
  have n0n : 0 < n := by omega
  have n1n : 1 < n := by omega
  have BA := chain_alloc (chain_alloc (Below.refl _ w) (.cells #[.int .i64 tx, .int .i64 tw] 116)) (.cells #[.int .u64 (uz tr.a), .int .u64 (uz tr.b), .int .u64 (uz tr.c)] 152)
  obtain ⟨tb0, tb1⟩ := two_new w (.cells #[.int .i64 tx, .int .i64 tw] 116) (.cells #[.int .u64 (uz tr.a), .int .u64 (uz tr.b), .int .u64 (uz tr.c)] 152)
  clear h1 h2 h3 h4 h5 h6 h7 h8 h9 h10 hk hat hd' he hcl hsl hrg qL i0 i1 y0 y1 hov hm hmc hcv hold hnv lL e1 n2
  go_enter Try.func107, Try.ntmps107
  go_wp2_with fail
  obtain ⟨bt, hbt⟩ : ∃ bt, bt = w.heap.size := ⟨_, rfl⟩
  obtain ⟨bm, hbm⟩ : ∃ bm, bm = w.heap.size + 1 := ⟨_, rfl⟩
  rw [← hbm] at tb1
  rw [← hbt] at tb0
  rw [← hbm, ← hbt]
  generalize (w.alloc (.cells #[.int .i64 tx, .int .i64 tw] 116)).alloc (.cells #[.int .u64 (uz tr.a), .int .u64 (uz tr.b), .int .u64 (uz tr.c)] 152) = w2 at BA tb0 tb1 ⊢
  have B2 := Lib.hid BA
  have TM : Hid (TC w2 bm tr) := tb1
  have HBM : Hid (w.heap.size ≤ bm) := by show _ ≤ _; omega
  have lg1 := Nat.lt_of_lt_of_le lg BA.size
  replace g1 := (BA.cell (p := ⟨g, 1, none⟩) lg).trans g1
  replace x0 := (BA.cell (p := ⟨bL, oL, none⟩) lx).trans x0
  replace x1 := (BA.cell (p := ⟨bL, oL + 1, none⟩) lx).trans x1
  have lx0 := Nat.lt_of_lt_of_le lx BA.size
  have lx1 := lx0
  clear hbt hbm BA tb0 tb1 g0 g2 lg lx
  refine wp_region_noPanic ?_
  refine wp_region_held_drew (S := fun w' => w'.cell? ⟨g, 1, none⟩ = some (.slice (some ⟨bL, oL, none⟩) n c) ∧ w'.cell? ⟨bL, oL, none⟩ = some (.int .u64 (uz ov.d)) ∧ w'.cell? ⟨bL, oL + 1, none⟩ = some (.int .u64 (uz ov.e))) (by kernel_rfl) ⟨g1, x0, x1⟩ (fun hHeld => ?_)
  have hd := below_drew w2
  replace g1 := (hd.cell (p := ⟨g, 1, none⟩) lg1).trans g1
  replace lg1 := Nat.lt_of_lt_of_le lg1 hd.size
  replace x0 := (hd.cell (p := ⟨bL, oL, none⟩) lx0).trans x0
  replace lx0 := Nat.lt_of_lt_of_le lx0 hd.size
  replace x1 := (hd.cell (p := ⟨bL, oL + 1, none⟩) lx1).trans x1
  replace lx1 := Nat.lt_of_lt_of_le lx1 hd.size
  generalize w2.drew = wq1 at hHeld hd g1 lg1 x0 lx0 x1 lx1 ⊢
  have BD : Hid (Below wq1.heap.size wq1 wq1) := Below.refl _ _
  refine wpAnyH_take (i := 0) (v := ?vv3001) (by simp only [List.getElem?_toArray, List.getElem?_cons_zero]; rfl) (by kernel_rfl) (by kernel_rfl) (by kernel_rfl) (fun _ _ _ h => h) (Or.inl ⟨by rfl, ?yy3001⟩) (by assumption) ?rr3001
  case yy3001 => (intro w hSw; (try dsimp only at hSw); go_simp; first | done | with_reducible rfl)
  simp only [Act.put, List.setIfInBounds_toArray, List.set_cons_zero, List.set_cons_succ]
  refine wpAnyH_take (i := 1) (v := ?vv3002) (by simp only [List.getElem?_toArray, List.getElem?_cons_zero, List.getElem?_cons_succ]; rfl) (by kernel_rfl) (by kernel_rfl) (by kernel_rfl) (fun _ _ _ h => h) (Or.inl ⟨by rfl, ?yy3002⟩) (by assumption) ?rr3002
  case yy3002 => (intro w hSw; (try dsimp only at hSw); go_simp; first | done | with_reducible rfl)
  simp only [Act.put, List.setIfInBounds_toArray, List.set_cons_zero, List.set_cons_succ]
  refine wpAnyH_take (i := 2) (v := ?vv3003) (by simp only [List.getElem?_toArray, List.getElem?_cons_zero, List.getElem?_cons_succ]; rfl) (by kernel_rfl) (by kernel_rfl) (by kernel_rfl) (fun _ _ _ h => h) (Or.inl ⟨by rfl, ?yy3003⟩) (by assumption) ?rr3003
  case yy3003 => (intro w hSw; (try dsimp only at hSw); go_simp; first | done | with_reducible rfl)
  simp only [Act.put, List.setIfInBounds_toArray, List.set_cons_zero, List.set_cons_succ]
  refine wpAnyH_take (i := 3) (v := ?vv3004) (by simp only [List.getElem?_toArray, List.getElem?_cons_zero, List.getElem?_cons_succ]; rfl) (by kernel_rfl) (by kernel_rfl) (by kernel_rfl) (fun _ _ _ h => h) (Or.inl ⟨by rfl, ?yy3004⟩) (by assumption) ?rr3004
  case yy3004 => (intro w hSw; (try dsimp only at hSw); go_simp; first | done | with_reducible rfl)
  simp only [Act.put, List.setIfInBounds_toArray, List.set_cons_zero, List.set_cons_succ]
  refine wpAnyH_take (i := 4) (v := ?vv3005) (by simp only [List.getElem?_toArray, List.getElem?_cons_zero, List.getElem?_cons_succ]; rfl) (by kernel_rfl) (by kernel_rfl) (by kernel_rfl) (fun _ _ _ h => h) (Or.inl ⟨by rfl, ?yy3005⟩) (by assumption) ?rr3005
  case yy3005 => (intro w hSw; (try dsimp only at hSw); go_simp; first | done | with_reducible rfl)
  simp only [Act.put, List.setIfInBounds_toArray, List.set_cons_zero, List.set_cons_succ]
  refine wpAnyH_take (i := 5) (v := ?vv3006) (by simp only [List.getElem?_toArray, List.getElem?_cons_zero, List.getElem?_cons_succ]; rfl) (by kernel_rfl) (by kernel_rfl) (by kernel_rfl) (fun _ _ _ h => h) (Or.inl ⟨by rfl, ?yy3006⟩) (by assumption) ?rr3006
  case yy3006 => (intro w hSw; (try dsimp only at hSw); go_simp; first | done | with_reducible rfl)
  simp only [Act.put, List.setIfInBounds_toArray, List.set_cons_zero, List.set_cons_succ]
  refine wpAnyH_take (i := 6) (v := ?vv3007) (by simp only [List.getElem?_toArray, List.getElem?_cons_zero, List.getElem?_cons_succ]; rfl) (by kernel_rfl) (by kernel_rfl) (by kernel_rfl) (fun _ _ _ h => h) (Or.inl ⟨by rfl, ?yy3007⟩) (by assumption) ?rr3007
  case yy3007 => (intro w hSw; (try dsimp only at hSw); go_simp; first | done | with_reducible rfl)
  simp only [Act.put, List.setIfInBounds_toArray, List.set_cons_zero, List.set_cons_succ]
  refine wpAnyH_take (i := 7) (v := ?vv3008) (by simp only [List.getElem?_toArray, List.getElem?_cons_zero, List.getElem?_cons_succ]; rfl) (by kernel_rfl) (by kernel_rfl) (by kernel_rfl) (fun _ _ _ h => h) (Or.inl ⟨by rfl, ?yy3008⟩) (by assumption) ?rr3008
  case yy3008 => (intro w hSw; (try dsimp only at hSw); go_simp; first | done | with_reducible rfl)
  simp only [Act.put, List.setIfInBounds_toArray, List.set_cons_zero, List.set_cons_succ]
  refine wpAnyH_take (i := 8) (v := ?vv3009) (by simp only [List.getElem?_toArray, List.getElem?_cons_zero, List.getElem?_cons_succ]; rfl) (by kernel_rfl) (by kernel_rfl) (by kernel_rfl) (fun _ _ _ h => h) (Or.inl ⟨by rfl, ?yy3009⟩) (by assumption) ?rr3009
  case yy3009 => (intro w hSw; (try dsimp only at hSw); go_simp; first | done | with_reducible rfl)
  simp only [Act.put, List.setIfInBounds_toArray, List.set_cons_zero, List.set_cons_succ]
  refine wpAnyH_take (i := 9) (v := ?vv3010) (by simp only [List.getElem?_toArray, List.getElem?_cons_zero, List.getElem?_cons_succ]; rfl) (by kernel_rfl) (by kernel_rfl) (by kernel_rfl) (fun _ _ _ h => h) (Or.inl ⟨by rfl, ?yy3010⟩) (by assumption) ?rr3010
  case yy3010 => (intro w hSw; (try dsimp only at hSw); go_simp; first | done | with_reducible rfl)
  simp only [Act.put, List.setIfInBounds_toArray, List.set_cons_zero, List.set_cons_succ]
  refine wpAnyH_take (i := 10) (v := ?vv3011) (by simp only [List.getElem?_toArray, List.getElem?_cons_zero, List.getElem?_cons_succ]; rfl) (by kernel_rfl) (by kernel_rfl) (by kernel_rfl) (fun _ _ _ h => h) (Or.inl ⟨by rfl, ?yy3011⟩) (by assumption) ?rr3011
  case yy3011 => (intro w hSw; (try dsimp only at hSw); go_simp; first | done | with_reducible rfl)
  simp only [Act.put, List.setIfInBounds_toArray, List.set_cons_zero, List.set_cons_succ]
  refine wpAnyH_take (i := 11) (v := ?vv3012) (by simp only [List.getElem?_toArray, List.getElem?_cons_zero, List.getElem?_cons_succ]; rfl) (by kernel_rfl) (by kernel_rfl) (by kernel_rfl) (fun _ _ _ h => h) (Or.inl ⟨by rfl, ?yy3012⟩) (by assumption) ?rr3012
  case yy3012 => (intro w hSw; (try dsimp only at hSw); go_simp; first | done | with_reducible rfl)
  simp only [Act.put, List.setIfInBounds_toArray, List.set_cons_zero, List.set_cons_succ]
  refine wpAnyH_take (i := 12) (v := ?vv3013) (by simp only [List.getElem?_toArray, List.getElem?_cons_zero, List.getElem?_cons_succ]; rfl) (by kernel_rfl) (by kernel_rfl) (by kernel_rfl) (fun _ _ _ h => h) (Or.inl ⟨by rfl, ?yy3013⟩) (by assumption) ?rr3013
  case yy3013 => (intro w hSw; (try dsimp only at hSw); go_simp; first | done | with_reducible rfl)
  simp only [Act.put, List.setIfInBounds_toArray, List.set_cons_zero, List.set_cons_succ]
  refine wpAnyH_ready (rs := [13]) (by kernel_rfl) (by simp) ?_
  refine AllReadyH.cons (by simp only [List.getElem?_toArray, List.getElem?_cons_zero, List.getElem?_cons_succ]; rfl) (fun K hK => ?_) ?_
  · skip
    go_simp
    clear hHeld
    obtain ⟨z, hB⟩ : ∃ b, b = wq1.heap.size := ⟨_, rfl⟩
    have zl : wq1.heap.size ≤ z := by rw [hB]; exact BD.out.size
    have Rz : Hid (OC (wq1.alloc (.cells #[.int .u64 0, .int .u64 0] 156)) z On.z) := by rw [hB]; exact heap_alloc_new wq1 _
    rw [← hB]
    clear hB
    replace BD := Lib.hid (chain_alloc BD.out (.cells #[.int .u64 0, .int .u64 0] 156))
    refine hK.out _ _ ⟨(BD.out.cell (p := ⟨g, 1, none⟩) lg1).trans g1, (BD.out.cell (p := ⟨bL, oL, none⟩) lx0).trans x0, (BD.out.cell (p := ⟨bL, oL + 1, none⟩) lx1).trans x1⟩ (fun hHeld => ?_)
    clear hK K
    try simp only [Act.put, List.setIfInBounds_toArray, List.set_cons_zero, List.set_cons_succ]
    generalize wq1.alloc (.cells #[.int .u64 0, .int .u64 0] 156) = wq2 at hHeld Rz BD ⊢
    refine wpAnyH_ready (rs := [14]) (by kernel_rfl) (by simp) ?_
    refine AllReadyH.cons (by simp only [List.getElem?_toArray, List.getElem?_cons_zero, List.getElem?_cons_succ]; rfl) (fun K hK => ?_) ?_
    · skip
      obtain ⟨z0, z1⟩ := Rz.out.cells
      have f0 := Rz.out.frozen 0
      have f1 := Rz.out.frozen 1
      go_simp
      clear hHeld
      replace Rz := Lib.hid (Rz.out.set ov)
      replace BD := Lib.hid (below_set2 BD.out zl (.int .u64 (uz ov.d)) (.int .u64 (uz ov.e)))
      refine hK.out _ _ ⟨(BD.out.cell (p := ⟨g, 1, none⟩) lg1).trans g1, (BD.out.cell (p := ⟨bL, oL, none⟩) lx0).trans x0, (BD.out.cell (p := ⟨bL, oL + 1, none⟩) lx1).trans x1⟩ (fun hHeld => ?_)
      clear hK K
      try simp only [Act.put, List.setIfInBounds_toArray, List.set_cons_zero, List.set_cons_succ]
      generalize ((wq2.setCell ⟨z, 0, none⟩ (.int .u64 (uz ov.d))).setCell ⟨z, 1, none⟩ (.int .u64 (uz ov.e))) = wq3 at hHeld Rz BD ⊢
      clear z0 z1 f0 f1
      refine wpAnyH_done (by kernel_rfl) ?_ _
      refine NoPanic.normal ?_
      clear hHeld
      have Bq := chain B2.out (chain hd BD.out)
      have TMq := TM.out.below (chain hd BD.out)
      have cg := CG.out.kept (Bq.block g CG.out.lt)
      have gc := cg.cells.2.1
      have gf := cg.frozen 1
      have rs := RS.out.kept (Bq.block gs RS.out.lt)
      have zg : z ≠ g := by have := hd.size; have := B2.out.size; have := CG.out.lt; omega
      have zs : z ≠ gs := by have := hd.size; have := B2.out.size; have := RS.out.lt; omega
      have mg : bm ≠ g := by have := HBM.out; have := CG.out.lt; omega
      have ms : bm ≠ gs := by have := HBM.out; have := RS.out.lt; omega
      have ZGS : Hid (gs ≠ z) := Ne.symm zs
      have MGS : Hid (gs ≠ bm) := Ne.symm ms
      have zz := Rz.out
      have Q1 := ClB.set cg A' m mc
      have Q2 := rs.kept (Below.heap_setCell wq3 ⟨g, 1, none⟩ (.slice A' m mc) gs (Ne.symm GN.out))
      have Q3 : OC (wq3.setCell ⟨g, 1, none⟩ (.slice A' m mc)) z ov := zz.other _ _ zg
      have Q4 : TC (wq3.setCell ⟨g, 1, none⟩ (.slice A' m mc)) bm tr := TMq.other _ _ mg
      have Q5 : Below w0.heap.size w (wq3.setCell ⟨g, 1, none⟩ (.slice A' m mc)) := (Bq.mono BB.out.size).setCell (p := ⟨g, 1, none⟩) G0.out _
      have Q6 : ∀ b, b < w.heap.size → b ≠ g → (wq3.setCell ⟨g, 1, none⟩ (.slice A' m mc)).heap[b]? = w.heap[b]? := fun b hb hn => (Below.heap_setCell wq3 ⟨g, 1, none⟩ _ b hn).trans (Bq.block b hb)
      have hsl := HSL.out
      clear x0 x1 g1 hd BD zl Rz lg1 lx0 lx1 zz rs TMq zg zs mg ms Bq cg
      go_wp2_with fail
      clear gc gf hsl
      generalize wq3.setCell ⟨g, 1, none⟩ (.slice A' m mc) = w3 at Q1 Q2 Q3 Q4 Q5 Q6 ⊢
      have CG3 := Lib.hid Q1; have RS3 := Lib.hid Q2; have B3 := Lib.hid Q5; have K3 := Lib.hid Q6
      have S3 := Lib.hid (Nat.le_trans BB.out.size Q5.size)
      obtain ⟨g0, hh1, g2⟩ := Q1.cells
      obtain ⟨z0, z1⟩ := Q3.cells
      obtain ⟨m0, m1, m2⟩ := Q4.cells
      have l0 := Q1.lt; have l2 := Q1.lt; have lz0 := Q3.lt; have lz1 := Q3.lt; have lm0 := Q4.lt; have lm1 := Q4.lt; have lm2 := Q4.lt
      have oc := Q2.cell (j := p) (by rw [acc_len]; simp [noughts]; exact hp)
      have lo := Q2.lt
      rw [← OLD.out] at oc
      have e1 := E1.out
      have p0 : (0 : Int) ≤ (p : Int) := Int.natCast_nonneg _
      have p1 : (p : Int) < (ku : Int) := Int.ofNat_lt.2 hp
      clear Q1 Q2 Q3 Q4 Q5 Q6 hh1
      refine wp_region_noPanic ?_
      refine wp_region_held_drew (S := fun w' => w'.cell? ⟨g, 2, none⟩ = some (.slice (some ⟨gs, 0, none⟩) ku ku) ∧ w'.cell? ⟨g, 0, none⟩ = some (.int .i64 a) ∧ w'.cell? ⟨bm, 0, none⟩ = some (.int .u64 (uz tr.a)) ∧ w'.cell? ⟨bm, 1, none⟩ = some (.int .u64 (uz tr.b)) ∧ w'.cell? ⟨bm, 2, none⟩ = some (.int .u64 (uz tr.c)) ∧ w'.cell? ⟨z, 0, none⟩ = some (.int .u64 (uz ov.d)) ∧ w'.cell? ⟨z, 1, none⟩ = some (.int .u64 (uz ov.e))) (by kernel_rfl) ⟨g2, g0, m0, m1, m2, z0, z1⟩ (fun hHeld => ?_)
      have hd := below_drew w3
      replace g2 := (hd.cell (p := ⟨g, 2, none⟩) l2).trans g2
      replace l2 := Nat.lt_of_lt_of_le l2 hd.size
      replace g0 := (hd.cell (p := ⟨g, 0, none⟩) l0).trans g0
      replace l0 := Nat.lt_of_lt_of_le l0 hd.size
      replace m0 := (hd.cell (p := ⟨bm, 0, none⟩) lm0).trans m0
      replace lm0 := Nat.lt_of_lt_of_le lm0 hd.size
      replace m1 := (hd.cell (p := ⟨bm, 1, none⟩) lm1).trans m1
      replace lm1 := Nat.lt_of_lt_of_le lm1 hd.size
      replace m2 := (hd.cell (p := ⟨bm, 2, none⟩) lm2).trans m2
      replace lm2 := Nat.lt_of_lt_of_le lm2 hd.size
      replace z0 := (hd.cell (p := ⟨z, 0, none⟩) lz0).trans z0
      replace lz0 := Nat.lt_of_lt_of_le lz0 hd.size
      replace z1 := (hd.cell (p := ⟨z, 1, none⟩) lz1).trans z1
      replace lz1 := Nat.lt_of_lt_of_le lz1 hd.size
      replace oc := (hd.cell (p := ⟨gs, p, none⟩) lo).trans oc
      replace lo := Nat.lt_of_lt_of_le lo hd.size
      replace S3 := Lib.hid S3.out
      generalize w3.drew = wq1 at hHeld hd g2 l2 g0 l0 m0 lm0 m1 lm1 m2 lm2 z0 lz0 z1 lz1 oc lo ⊢
      have BD : Hid (Below wq1.heap.size wq1 wq1) := Below.refl _ _
      refine wpAnyH_take (i := 0) (v := ?vv4001) (by simp only [List.getElem?_toArray, List.getElem?_cons_zero]; rfl) (by kernel_rfl) (by kernel_rfl) (by kernel_rfl) (fun _ _ _ h => h) (Or.inl ⟨by rfl, ?yy4001⟩) (by assumption) ?rr4001
      case yy4001 => (intro w hSw; (try dsimp only at hSw); go_simp; first | done | with_reducible rfl)
      simp only [Act.put, List.setIfInBounds_toArray, List.set_cons_zero, List.set_cons_succ]
      refine wpAnyH_take (i := 1) (v := ?vv4002) (by simp only [List.getElem?_toArray, List.getElem?_cons_zero, List.getElem?_cons_succ]; rfl) (by kernel_rfl) (by kernel_rfl) (by kernel_rfl) (fun _ _ _ h => h) (Or.inl ⟨by rfl, ?yy4002⟩) (by assumption) ?rr4002
      case yy4002 => (intro w hSw; (try dsimp only at hSw); go_simp; first | done | with_reducible rfl)
      simp only [Act.put, List.setIfInBounds_toArray, List.set_cons_zero, List.set_cons_succ]
      refine wpAnyH_take (i := 2) (v := ?vv4003) (by simp only [List.getElem?_toArray, List.getElem?_cons_zero, List.getElem?_cons_succ]; rfl) (by kernel_rfl) (by kernel_rfl) (by kernel_rfl) (fun _ _ _ h => h) (Or.inl ⟨by rfl, ?yy4003⟩) (by assumption) ?rr4003
      case yy4003 => (intro w hSw; (try dsimp only at hSw); go_simp; first | done | with_reducible rfl)
      simp only [Act.put, List.setIfInBounds_toArray, List.set_cons_zero, List.set_cons_succ]
      refine wpAnyH_take (i := 3) (v := ?vv4004) (by simp only [List.getElem?_toArray, List.getElem?_cons_zero, List.getElem?_cons_succ]; rfl) (by kernel_rfl) (by kernel_rfl) (by kernel_rfl) (fun _ _ _ h => h) (Or.inl ⟨by rfl, ?yy4004⟩) (by assumption) ?rr4004
      case yy4004 => (intro w hSw; (try dsimp only at hSw); go_simp; first | done | with_reducible rfl)
      simp only [Act.put, List.setIfInBounds_toArray, List.set_cons_zero, List.set_cons_succ]
      refine wpAnyH_take (i := 4) (v := ?vv4005) (by simp only [List.getElem?_toArray, List.getElem?_cons_zero, List.getElem?_cons_succ]; rfl) (by kernel_rfl) (by kernel_rfl) (by kernel_rfl) (fun _ _ _ h => h) (Or.inl ⟨by rfl, ?yy4005⟩) (by assumption) ?rr4005
      case yy4005 => (intro w hSw; (try dsimp only at hSw); go_simp; first | done | with_reducible rfl)
      simp only [Act.put, List.setIfInBounds_toArray, List.set_cons_zero, List.set_cons_succ]
      refine wpAnyH_take (i := 5) (v := ?vv4006) (by simp only [List.getElem?_toArray, List.getElem?_cons_zero, List.getElem?_cons_succ]; rfl) (by kernel_rfl) (by kernel_rfl) (by kernel_rfl) (fun _ _ _ h => h) (Or.inl ⟨by rfl, ?yy4006⟩) (by assumption) ?rr4006
      case yy4006 => (intro w hSw; (try dsimp only at hSw); go_simp; first | done | with_reducible rfl)
      simp only [Act.put, List.setIfInBounds_toArray, List.set_cons_zero, List.set_cons_succ]
      refine wpAnyH_take (i := 7) (v := ?vv4007) (by simp only [List.getElem?_toArray, List.getElem?_cons_zero, List.getElem?_cons_succ]; rfl) (by kernel_rfl) (by kernel_rfl) (by kernel_rfl) (fun _ _ _ h => h) (Or.inl ⟨by rfl, ?yy4007⟩) (by assumption) ?rr4007
      case yy4007 => (intro w hSw; (try dsimp only at hSw); go_simp; first | done | with_reducible rfl)
      simp only [Act.put, List.setIfInBounds_toArray, List.set_cons_zero, List.set_cons_succ]
      refine wpAnyH_take (i := 8) (v := ?vv4008) (by simp only [List.getElem?_toArray, List.getElem?_cons_zero, List.getElem?_cons_succ]; rfl) (by kernel_rfl) (by kernel_rfl) (by kernel_rfl) (fun _ _ _ h => h) (Or.inl ⟨by rfl, ?yy4008⟩) (by assumption) ?rr4008
      case yy4008 => (intro w hSw; (try dsimp only at hSw); go_simp; first | done | with_reducible rfl)
      simp only [Act.put, List.setIfInBounds_toArray, List.set_cons_zero, List.set_cons_succ]
      refine wpAnyH_take (i := 9) (v := ?vv4009) (by simp only [List.getElem?_toArray, List.getElem?_cons_zero, List.getElem?_cons_succ]; rfl) (by kernel_rfl) (by kernel_rfl) (by kernel_rfl) (fun _ _ _ h => h) (Or.inl ⟨by rfl, ?yy4009⟩) (by assumption) ?rr4009
      case yy4009 => (intro w hSw; (try dsimp only at hSw); go_simp; first | done | with_reducible rfl)
      simp only [Act.put, List.setIfInBounds_toArray, List.set_cons_zero, List.set_cons_succ]
      refine wpAnyH_take (i := 10) (v := ?vv4010) (by simp only [List.getElem?_toArray, List.getElem?_cons_zero, List.getElem?_cons_succ]; rfl) (by kernel_rfl) (by kernel_rfl) (by kernel_rfl) (fun _ _ _ h => h) (Or.inl ⟨by rfl, ?yy4010⟩) (by assumption) ?rr4010
      case yy4010 => (intro w hSw; (try dsimp only at hSw); go_simp; first | done | with_reducible rfl)
      simp only [Act.put, List.setIfInBounds_toArray, List.set_cons_zero, List.set_cons_succ]
      refine wpAnyH_take (i := 11) (v := ?vv4011) (by simp only [List.getElem?_toArray, List.getElem?_cons_zero, List.getElem?_cons_succ]; rfl) (by kernel_rfl) (by kernel_rfl) (by kernel_rfl) (fun _ _ _ h => h) (Or.inl ⟨by rfl, ?yy4011⟩) (by assumption) ?rr4011
      case yy4011 => (intro w hSw; (try dsimp only at hSw); go_simp; first | done | with_reducible rfl)
      simp only [Act.put, List.setIfInBounds_toArray, List.set_cons_zero, List.set_cons_succ]
      refine wpAnyH_take (i := 12) (v := ?vv4012) (by simp only [List.getElem?_toArray, List.getElem?_cons_zero, List.getElem?_cons_succ]; rfl) (by kernel_rfl) (by kernel_rfl) (by kernel_rfl) (fun _ _ _ h => h) (Or.inl ⟨by rfl, ?yy4012⟩) (by assumption) ?rr4012
      case yy4012 => (intro w hSw; (try dsimp only at hSw); go_simp; first | done | with_reducible rfl)
      simp only [Act.put, List.setIfInBounds_toArray, List.set_cons_zero, List.set_cons_succ]
      refine wpAnyH_ready (rs := [6, 13]) (by kernel_rfl) (by simp) ?_
      refine AllReadyH.cons (by simp only [List.getElem?_toArray, List.getElem?_cons_zero, List.getElem?_cons_succ]; rfl) (fun K hK => ?_) ?_
      · skip
        have zc : wq1.cell? ⟨gs, p, none⟩ = some (.int .u64 (uz old)) := (BD.out.cell (p := ⟨gs, p, none⟩) lo).trans oc
        go_simp
        clear zc
        clear hHeld
        refine hK.out _ _ ⟨(BD.out.cell (p := ⟨g, 2, none⟩) l2).trans g2, (BD.out.cell (p := ⟨g, 0, none⟩) l0).trans g0, (BD.out.cell (p := ⟨bm, 0, none⟩) lm0).trans m0, (BD.out.cell (p := ⟨bm, 1, none⟩) lm1).trans m1, (BD.out.cell (p := ⟨bm, 2, none⟩) lm2).trans m2, (BD.out.cell (p := ⟨z, 0, none⟩) lz0).trans z0, (BD.out.cell (p := ⟨z, 1, none⟩) lz1).trans z1⟩ (fun hHeld => ?_)
        clear hK K
        try simp only [Act.put, List.setIfInBounds_toArray, List.set_cons_zero, List.set_cons_succ]
        refine wpAnyH_ready (rs := [13]) (by kernel_rfl) (by simp) ?_
        refine AllReadyH.cons (by simp only [List.getElem?_toArray, List.getElem?_cons_zero, List.getElem?_cons_succ]; rfl) (fun K hK => ?_) ?_
        · skip
          go_simp
          go_at_call 110
          (with_reducible refine (CC.out _).mono ?_)
          rintro e wq3 ⟨rfl, hb⟩
          clear hHeld
          replace BD := Lib.hid (chain BD.out hb)
          clear hb
          go_wp2_with fail
          refine hK.out _ _ ⟨(BD.out.cell (p := ⟨g, 2, none⟩) l2).trans g2, (BD.out.cell (p := ⟨g, 0, none⟩) l0).trans g0, (BD.out.cell (p := ⟨bm, 0, none⟩) lm0).trans m0, (BD.out.cell (p := ⟨bm, 1, none⟩) lm1).trans m1, (BD.out.cell (p := ⟨bm, 2, none⟩) lm2).trans m2, (BD.out.cell (p := ⟨z, 0, none⟩) lz0).trans z0, (BD.out.cell (p := ⟨z, 1, none⟩) lz1).trans z1⟩ (fun hHeld => ?_)
          clear hK K
          try simp only [Act.put, List.setIfInBounds_toArray, List.set_cons_zero, List.set_cons_succ]
          refine wpAnyH_take (i := 14) (v := ?vv4013) (by simp only [List.getElem?_toArray, List.getElem?_cons_zero, List.getElem?_cons_succ]; rfl) (by kernel_rfl) (by kernel_rfl) (by kernel_rfl) (fun _ _ _ h => h) (Or.inl ⟨by rfl, ?yy4013⟩) (by assumption) ?rr4013
          case yy4013 => (intro w hSw; (try dsimp only at hSw); go_simp; first | done | with_reducible rfl)
          simp only [Act.put, List.setIfInBounds_toArray, List.set_cons_zero, List.set_cons_succ]
          refine wpAnyH_take (i := 15) (v := ?vv4014) (by simp only [List.getElem?_toArray, List.getElem?_cons_zero, List.getElem?_cons_succ]; rfl) (by kernel_rfl) (by kernel_rfl) (by kernel_rfl) (fun _ _ _ h => h) (Or.inl ⟨by rfl, ?yy4014⟩) (by assumption) ?rr4014
          case yy4014 => (intro w hSw; (try dsimp only at hSw); go_simp; first | done | with_reducible rfl)
          simp only [Act.put, List.setIfInBounds_toArray, List.set_cons_zero, List.set_cons_succ]
          refine wpAnyH_ready (rs := [16]) (by kernel_rfl) (by simp) ?_
          refine AllReadyH.cons (by simp only [List.getElem?_toArray, List.getElem?_cons_zero, List.getElem?_cons_succ]; rfl) (fun K hK => ?_) ?_
          · skip
            have RBw := RS3.out.below (chain hd BD.out)
            have zc := RBw.cell (j := p) (by rw [acc_len]; simp [noughts]; exact hp)
            have f0 := RBw.frozen p
            go_simp
            clear hHeld
            have OKn : Hid (RB (wq3.setCell ⟨gs, p, none⟩ (.int .u64 (uz nv))) gs (accL at' cl (noughts ku) (k + 1))) := by
              show RB _ _ _
              rw [acc_row at' cl (noughts ku) k p cv AV.out CV.out, ← OLD.out, ← NV.out]
              exact RBw.set p nv
            have CGn : Hid (ClB (wq3.setCell ⟨gs, p, none⟩ (.int .u64 (uz nv))) g a A' m mc gs ku) := (CG3.out.kept ((chain hd BD.out).block g CG3.out.lt)).kept (Below.heap_setCell wq3 ⟨gs, p, none⟩ _ g GN.out)
            have KF : Hid (Below w0.heap.size w (wq3.setCell ⟨gs, p, none⟩ (.int .u64 (uz nv))) ∧ ∀ b, b < w.heap.size → b ≠ g → b ≠ gs → (wq3.setCell ⟨gs, p, none⟩ (.int .u64 (uz nv))).heap[b]? = w.heap[b]?) := ⟨(B3.out.trans ((chain hd BD.out).mono S3.out)).setCell (p := ⟨gs, p, none⟩) GS0.out _, fun b hb n1 n2 => (Below.heap_setCell wq3 ⟨gs, p, none⟩ _ b n2).trans (((chain hd BD.out).block b (Nat.lt_of_lt_of_le hb B3.out.size)).trans (K3.out b hb n1))⟩
            refine hK.out _ _ ⟨(World.cell?_setCell_far _ _ _ _ (Ne.symm GN.out)).trans ((BD.out.cell (p := ⟨g, 2, none⟩) l2).trans g2), (World.cell?_setCell_far _ _ _ _ (Ne.symm GN.out)).trans ((BD.out.cell (p := ⟨g, 0, none⟩) l0).trans g0), (World.cell?_setCell_far _ _ _ _ MGS.out).trans ((BD.out.cell (p := ⟨bm, 0, none⟩) lm0).trans m0), (World.cell?_setCell_far _ _ _ _ MGS.out).trans ((BD.out.cell (p := ⟨bm, 1, none⟩) lm1).trans m1), (World.cell?_setCell_far _ _ _ _ MGS.out).trans ((BD.out.cell (p := ⟨bm, 2, none⟩) lm2).trans m2), (World.cell?_setCell_far _ _ _ _ ZGS.out).trans ((BD.out.cell (p := ⟨z, 0, none⟩) lz0).trans z0), (World.cell?_setCell_far _ _ _ _ ZGS.out).trans ((BD.out.cell (p := ⟨z, 1, none⟩) lz1).trans z1)⟩ (fun hHeld => ?_)
            clear hK K f0 zc RBw
            try simp only [Act.put, List.setIfInBounds_toArray, List.set_cons_zero, List.set_cons_succ]
            refine wpAnyH_done (by kernel_rfl) ?_ _
            refine NoPanic.normal ?_
            clear hHeld
            go_wp2_with fail
            go_end0
            exact ⟨rfl, O, ⟨A', m, mc, CGn.out, M1.out, M2.out, R'.out, OKn.out, BB.out.trans KF.out.1, G0.out, GS0.out, GN.out, OX.out⟩, ⟨KF.out.1, fun b hb hn => KF.out.2 b hb (fun q => hn ((OX.out b).2 (Or.inl q))) (fun q => hn ((OX.out b).2 (Or.inr q)))⟩, fun b q => Or.inl q⟩
          exact AllReadyH.nil
        exact AllReadyH.nil
      refine AllReadyH.cons (by simp only [List.getElem?_toArray, List.getElem?_cons_zero, List.getElem?_cons_succ]; rfl) (fun K hK => ?_) ?_
      · skip
        go_simp
        go_at_call 110
        (with_reducible refine (CC.out _).mono ?_)
        rintro e wq5 ⟨rfl, hb⟩
        clear hHeld
        replace BD := Lib.hid (chain BD.out hb)
        clear hb
        go_wp2_with fail
        refine hK.out _ _ ⟨(BD.out.cell (p := ⟨g, 2, none⟩) l2).trans g2, (BD.out.cell (p := ⟨g, 0, none⟩) l0).trans g0, (BD.out.cell (p := ⟨bm, 0, none⟩) lm0).trans m0, (BD.out.cell (p := ⟨bm, 1, none⟩) lm1).trans m1, (BD.out.cell (p := ⟨bm, 2, none⟩) lm2).trans m2, (BD.out.cell (p := ⟨z, 0, none⟩) lz0).trans z0, (BD.out.cell (p := ⟨z, 1, none⟩) lz1).trans z1⟩ (fun hHeld => ?_)
        clear hK K
        try simp only [Act.put, List.setIfInBounds_toArray, List.set_cons_zero, List.set_cons_succ]
        refine wpAnyH_ready (rs := [6]) (by kernel_rfl) (by simp) ?_
        refine AllReadyH.cons (by simp only [List.getElem?_toArray, List.getElem?_cons_zero, List.getElem?_cons_succ]; rfl) (fun K hK => ?_) ?_
        · skip
          have zc : wq5.cell? ⟨gs, p, none⟩ = some (.int .u64 (uz old)) := (BD.out.cell (p := ⟨gs, p, none⟩) lo).trans oc
          go_simp
          clear zc
          clear hHeld
          refine hK.out _ _ ⟨(BD.out.cell (p := ⟨g, 2, none⟩) l2).trans g2, (BD.out.cell (p := ⟨g, 0, none⟩) l0).trans g0, (BD.out.cell (p := ⟨bm, 0, none⟩) lm0).trans m0, (BD.out.cell (p := ⟨bm, 1, none⟩) lm1).trans m1, (BD.out.cell (p := ⟨bm, 2, none⟩) lm2).trans m2, (BD.out.cell (p := ⟨z, 0, none⟩) lz0).trans z0, (BD.out.cell (p := ⟨z, 1, none⟩) lz1).trans z1⟩ (fun hHeld => ?_)
          clear hK K
          try simp only [Act.put, List.setIfInBounds_toArray, List.set_cons_zero, List.set_cons_succ]
          refine wpAnyH_take (i := 14) (v := ?vv4015) (by simp only [List.getElem?_toArray, List.getElem?_cons_zero, List.getElem?_cons_succ]; rfl) (by kernel_rfl) (by kernel_rfl) (by kernel_rfl) (fun _ _ _ h => h) (Or.inl ⟨by rfl, ?yy4015⟩) (by assumption) ?rr4015
          case yy4015 => (intro w hSw; (try dsimp only at hSw); go_simp; first | done | with_reducible rfl)
          simp only [Act.put, List.setIfInBounds_toArray, List.set_cons_zero, List.set_cons_succ]
          refine wpAnyH_take (i := 15) (v := ?vv4016) (by simp only [List.getElem?_toArray, List.getElem?_cons_zero, List.getElem?_cons_succ]; rfl) (by kernel_rfl) (by kernel_rfl) (by kernel_rfl) (fun _ _ _ h => h) (Or.inl ⟨by rfl, ?yy4016⟩) (by assumption) ?rr4016
          case yy4016 => (intro w hSw; (try dsimp only at hSw); go_simp; first | done | with_reducible rfl)
          simp only [Act.put, List.setIfInBounds_toArray, List.set_cons_zero, List.set_cons_succ]
          refine wpAnyH_ready (rs := [16]) (by kernel_rfl) (by simp) ?_
          refine AllReadyH.cons (by simp only [List.getElem?_toArray, List.getElem?_cons_zero, List.getElem?_cons_succ]; rfl) (fun K hK => ?_) ?_
          · skip
            have RBw := RS3.out.below (chain hd BD.out)
            have zc := RBw.cell (j := p) (by rw [acc_len]; simp [noughts]; exact hp)
            have f0 := RBw.frozen p
            go_simp
            clear hHeld
            have OKn : Hid (RB (wq5.setCell ⟨gs, p, none⟩ (.int .u64 (uz nv))) gs (accL at' cl (noughts ku) (k + 1))) := by
              show RB _ _ _
              rw [acc_row at' cl (noughts ku) k p cv AV.out CV.out, ← OLD.out, ← NV.out]
              exact RBw.set p nv
            have CGn : Hid (ClB (wq5.setCell ⟨gs, p, none⟩ (.int .u64 (uz nv))) g a A' m mc gs ku) := (CG3.out.kept ((chain hd BD.out).block g CG3.out.lt)).kept (Below.heap_setCell wq5 ⟨gs, p, none⟩ _ g GN.out)
            have KF : Hid (Below w0.heap.size w (wq5.setCell ⟨gs, p, none⟩ (.int .u64 (uz nv))) ∧ ∀ b, b < w.heap.size → b ≠ g → b ≠ gs → (wq5.setCell ⟨gs, p, none⟩ (.int .u64 (uz nv))).heap[b]? = w.heap[b]?) := ⟨(B3.out.trans ((chain hd BD.out).mono S3.out)).setCell (p := ⟨gs, p, none⟩) GS0.out _, fun b hb n1 n2 => (Below.heap_setCell wq5 ⟨gs, p, none⟩ _ b n2).trans (((chain hd BD.out).block b (Nat.lt_of_lt_of_le hb B3.out.size)).trans (K3.out b hb n1))⟩
            refine hK.out _ _ ⟨(World.cell?_setCell_far _ _ _ _ (Ne.symm GN.out)).trans ((BD.out.cell (p := ⟨g, 2, none⟩) l2).trans g2), (World.cell?_setCell_far _ _ _ _ (Ne.symm GN.out)).trans ((BD.out.cell (p := ⟨g, 0, none⟩) l0).trans g0), (World.cell?_setCell_far _ _ _ _ MGS.out).trans ((BD.out.cell (p := ⟨bm, 0, none⟩) lm0).trans m0), (World.cell?_setCell_far _ _ _ _ MGS.out).trans ((BD.out.cell (p := ⟨bm, 1, none⟩) lm1).trans m1), (World.cell?_setCell_far _ _ _ _ MGS.out).trans ((BD.out.cell (p := ⟨bm, 2, none⟩) lm2).trans m2), (World.cell?_setCell_far _ _ _ _ ZGS.out).trans ((BD.out.cell (p := ⟨z, 0, none⟩) lz0).trans z0), (World.cell?_setCell_far _ _ _ _ ZGS.out).trans ((BD.out.cell (p := ⟨z, 1, none⟩) lz1).trans z1)⟩ (fun hHeld => ?_)
            clear hK K f0 zc RBw
            try simp only [Act.put, List.setIfInBounds_toArray, List.set_cons_zero, List.set_cons_succ]
            refine wpAnyH_done (by kernel_rfl) ?_ _
            refine NoPanic.normal ?_
            clear hHeld
            go_wp2_with fail
            go_end0
            exact ⟨rfl, O, ⟨A', m, mc, CGn.out, M1.out, M2.out, R'.out, OKn.out, BB.out.trans KF.out.1, G0.out, GS0.out, GN.out, OX.out⟩, ⟨KF.out.1, fun b hb hn => KF.out.2 b hb (fun q => hn ((OX.out b).2 (Or.inl q))) (fun q => hn ((OX.out b).2 (Or.inr q)))⟩, fun b q => Or.inl q⟩
          exact AllReadyH.nil
        exact AllReadyH.nil
      exact AllReadyH.nil
    exact AllReadyH.nil
  exact AllReadyH.nil

end Go.Proofs.Ytklgjhldebdegaa

namespace Go.Proofs.Ytklgjhldebdegaa
open Go.RowKit

set_option maxHeartbeats 400000 in
set_option maxRecDepth 100000 in
theorem pair10_core (F : Nat) (caps : Array Value) (g : UInt64 → UInt64 → UInt64) (A B : Option Addr) (cA cB na nb n : Nat) (xs ys : List UInt64) (w : World) (hx : Rg ucells w A xs) (hy : Rg ucells w B ys)
    (lx : xs.length = n) (ly : ys.length = n) (hn : n ≤ 1000000) (hc : (n = na ∧ n ≤ nb ∧ n ≤ nb) ∨ (n = nb ∧ n < na ∧ n ≤ na))
    (hE : ∀ args w, Sem.run Try.prog (callFunc F args) w = .ok (.enter F args) w)
    (hF : ∀ (x y : UInt64) (w1 : World), Below w.heap.size w w1 → Calls Try.prog F (#[.int .u64 (uz x), .int .u64 (uz y)] ++ caps) w1 fun e w' => e = .returned (.int .u64 (uz (g x y))) ∧ w1 = w') :
    Calls Try.prog 29 #[.slice A na cA, .slice B nb cB, .func (.func F) #[] caps] w (RowNew ucells (List.zipWith g xs ys) w) := by
  obtain ⟨i0, hi, hz0, hz1, hz2⟩ := info_parts Try.info27
  have hmk : ∀ w : World, (Instr.makeSlice 28 (.int .i64 (n : Int)) (.int .i64 (n : Int))).run Try.prog w = .ok (.slice (some ⟨w.heap.size, 0, none⟩) n n) (w.alloc (.cells (madeCells #[.int .u64 0] n) 27)) := fun w => by
    have := run_make (P := Try.prog) w 28 27 i0 _ Try.underlying28 hi hz0 .i64 .i64 (n : Int) (n : Int) (by omega) (Int.le_refl _) (by rw [hz2]; omega) (by omega)
    rw [hz1, Nat.mul_one] at this
    exact this
  have HF := Lib.hid hF; clear hF
  have HX := Lib.hid hx; clear hx
  have HY := Lib.hid hy; clear hy
  obtain ⟨zs, hzs⟩ : ∃ zs, zs = List.zipWith g xs ys := ⟨_, rfl⟩
  rw [← hzs]
  have lz : zs.length = n := by rw [hzs]; simp [lx, ly]
  have HZ := Lib.hid hzs; clear hzs
  have LX := Lib.hid lx; clear lx
  have LY := Lib.hid ly; clear ly
  have LZ := Lib.hid lz; clear lz
  rcases hc with ⟨h1, h2, h3⟩ | ⟨h1, h2, h3⟩
  all_goals
    subst h1
    go_enter Try.func29, Try.ntmps29
    go_wp2_with fail
    obtain ⟨p, hp⟩ : ∃ p, p = w.heap.size := ⟨_, rfl⟩
    obtain ⟨W, hW⟩ : ∃ W, W = w.alloc (.cells (madeCells #[.int .u64 0] n) 27) := ⟨_, rfl⟩
    have F0 : Hid (SB9 W p n 0 zs) := by rw [hW, hp]; exact SB9.start w n _
    have B0 : Hid (Below w.heap.size w W) := by rw [hW]; exact (Below.refl _ w).alloc (Nat.le_refl _) _
    have gl : w.heap.size ≤ p := by omega
    rw [← hW, ← hp]
    clear hW hp hi hz0 hz1 hz2 hmk
    go_loopw [17] (fun i wr => ∃ k : Nat, k ≤ n ∧ i = .int .i64 k ∧ Hid (SB9 wr p n k zs) ∧ Hid (Below w.heap.size w wr)) (fun i _ => n - (intOf i).toNat)
    case atStart => exact ⟨0, Nat.zero_le _, rfl, F0, B0⟩
    case round =>
      obtain ⟨k, hk, rfl, HOk, HBk⟩ := hrel
      by_cases hlt : k < n
      · obtain ⟨b1, o1, rfl, l1, c1⟩ := HX.out (by rw [LX.out]; omega)
        obtain ⟨b2, o2, rfl, l2, c2⟩ := HY.out (by rw [LY.out]; omega)
        obtain ⟨x, HXk⟩ := get_some hlt LX.out
        obtain ⟨y, HYk⟩ := get_some hlt LY.out
        have d1 := (HBk.out.cell (p := ⟨b1, o1 + k, none⟩) l1).trans (su_cell c1 HXk)
        have d2 := (HBk.out.cell (p := ⟨b2, o2 + k, none⟩) l2).trans (su_cell c2 HYk)
        have HZk : Hid (zs[k]? = some (g x y)) := by
          show _ = _
          rw [HZ.out, List.getElem?_zipWith, HXk, HYk]
        obtain ⟨⟨v0, d4⟩, d3⟩ := HOk.out.facts hlt
        have hq := Nat.lt_of_lt_of_le hlt h3
        clear c1 c2 HXk HYk
        go_wp2_with fail
        go_still_tail 13, (by kernel_rfl)
        still_call ((HF.out x y _ HBk.out.drew).mono fun _ _ h => ⟨h.1, h.2.symm⟩)
        repeat still_step
        refine wpStill_nil ?_
        have HS : Hid (SB9 (wr.setCell ⟨p, k, none⟩ (.int .u64 (uz (g x y)))) p n (k + 1) zs) := HOk.out.step hlt HZk.out
        have HT : Hid (Below w.heap.size w (wr.setCell ⟨p, k, none⟩ (.int .u64 (uz (g x y))))) := HBk.out.setCell (p := ⟨p, k, none⟩) gl _
        clear HOk HBk HX HY d1 d2 HZk
        go_wp2_with fail
        go_roundw
        case rel => exact ⟨k + 1, by omega, by go_num, SB9.drew HS.out, HT.out.drew⟩
        case measure => simp [intOf]; omega
      · obtain rfl : k = n := by omega
        go_wp2_with fail
        go_ret
        exact ⟨some ⟨p, 0, none⟩, k, k, rfl, LZ.out.symm, HOk.out.done LZ.out, HBk.out, Nat.le_refl _, by unfold maxLen; omega, fun a ha => by injection ha with ha; rw [← ha]; exact gl⟩

theorem pair10 (F : Nat) (caps : Array Value) (g : UInt64 → UInt64 → UInt64) (A B : Option Addr) (cA cB na nb : Nat) (xs ys : List UInt64) (w : World) (hx : Rg ucells w A xs) (hy : Rg ucells w B ys)
    (lx : na = xs.length) (ly : nb = ys.length) (hn : na ≤ 1000000)
    (hE : ∀ args w, Sem.run Try.prog (callFunc F args) w = .ok (.enter F args) w)
    (hF : ∀ (x y : UInt64) (w1 : World), Below w.heap.size w w1 → Calls Try.prog F (#[.int .u64 (uz x), .int .u64 (uz y)] ++ caps) w1 fun e w' => e = .returned (.int .u64 (uz (g x y))) ∧ w1 = w') :
    Calls Try.prog 29 #[.slice A na cA, .slice B nb cB, .func (.func F) #[] caps] w (RowNew ucells (List.zipWith g xs ys) w) := by
  subst lx ly
  have := pair10_core F caps g A B cA cB xs.length ys.length (min xs.length ys.length) (xs.take (min xs.length ys.length)) (ys.take (min xs.length ys.length)) w (hx.take _) (hy.take _) (by simp) (by simp) (by omega) (by omega) hE hF
  rw [zip_takeR] at this
  exact this

set_option maxHeartbeats 400000 in
set_option maxRecDepth 100000 in
theorem add10_clo (x y : UInt64) (w : World) :
    Calls Try.prog 30 #[.int .u64 (uz x), .int .u64 (uz y)] w fun e w' => e = .returned (.int .u64 (uz (x + y))) ∧ w = w' := by
  have H := Lib.hid (uz_add x y)
  go_enter Try.func30, Try.ntmps30
  go_wp2
  go_ret
  exact ⟨congrArg (fun n => Ending.returned (.int .u64 n)) H.out, rfl⟩
set_option maxHeartbeats 400000 in
set_option maxRecDepth 100000 in
theorem add10 (A B : Option Addr) (cA cB na nb : Nat) (xs ys : List UInt64) (w : World) (hx : Rg ucells w A xs) (hy : Rg ucells w B ys) (lx : na = xs.length) (ly : nb = ys.length) (hn : na ≤ 1000000) :
    Calls Try.prog 17 #[.slice A na cA, .slice B nb cB] w (RowNew ucells (addR xs ys) w) := by
  have HP := Lib.hid (pair10 30 #[] (· + ·) A B cA cB na nb xs ys w hx hy lx ly hn (by intro args w; go_simp) (fun x y w1 _ => add10_clo x y w1))
  clear hx hy lx ly
  go_enter Try.func17, Try.ntmps17
  go_wp2_with fail
  refine HP.out.mono ?_
  rintro e w1 ⟨A', c', n', rfl, h1, h2, h3, h4, h5, h6⟩
  have H1 := Lib.hid h1; have H2 := Lib.hid h2; have H3 := Lib.hid h3; have H4 := Lib.hid h4; have H5 := Lib.hid h5; have H6 := Lib.hid h6
  clear h1 h2 h3 h4 h5 h6
  go_wp2_with fail
  go_ret
  exact ⟨A', c', n', rfl, H1.out, H2.out, H3.out, H4.out, H5.out, H6.out⟩

end Go.Proofs.Ytklgjhldebdegaa

namespace Go.Proofs.Ytklgjhldebdegaa
open Go.RowKit

set_option maxHeartbeats 400000 in
theorem ltakes13 (m : Int) (w : World) : Calls Try.prog 102 #[.agg #[.int .i64 m]] w fun e w' => e = .returned (.int .i64 m) ∧ Below w.heap.size w w' := by
  go_enter Try.func102, Try.ntmps102
  go_wp2_with fail
  go_ret
  exact ⟨rfl, chain_alloc (Below.refl _ w) _⟩
set_option maxHeartbeats 400000 in
theorem ptakes13 (c h x : Int) (A : Option Addr) (n cA : Nat) (a : Int) (z : UInt64) (l f i u : Int) (w : World) : Calls Try.prog 105 #[.agg #[.int .i64 c, .int .i64 h, .int .i64 x, .slice A n cA, .int .i64 a, .int .u64 (uz z), .int .i64 l, .int .i64 f, .int .i64 i, .int .i64 u]] w fun e w' => e = .returned (.int .i64 i) ∧ Below w.heap.size w w' := by
  go_enter Try.func105, Try.ntmps105
  go_wp2_with fail
  go_ret
  exact ⟨rfl, chain_alloc (Below.refl _ w) _⟩
set_option maxHeartbeats 400000 in
theorem lbehind13 (m : Int) (A : Option Addr) (n cA : Nat) (w : World) : Calls Try.prog 100 #[.agg #[.int .i64 m], .slice A n cA] w fun e w' => e = .returned (.slice A n cA) ∧ Below w.heap.size w w' := by
  go_enter Try.func100, Try.ntmps100
  go_wp2_with fail
  go_ret
  exact ⟨rfl, chain_alloc (Below.refl _ w) _⟩
set_option maxHeartbeats 400000 in
theorem lline13 (m : Int) (X W : Option Addr) (nX cX nW cW : Nat) (xs : List UInt64) (w : World) (hX : Rg ucells w X xs) (lX : nX = xs.length) (h0 : 0 < nX) (h1 : nX ≤ 100000) : Calls Try.prog 101 #[.agg #[.int .i64 m], .slice X nX cX, .slice W nW cW] w (RowTo ucells xs w) := by
  have HX := Lib.hid hX; have LX := Lib.hid lX
  clear hX lX
  go_enter Try.func101, Try.ntmps101
  go_wp2_with fail
  refine (clone_any X cX nX xs _ (HX.out.below (chain_alloc (Below.refl _ w) _)) LX.out h0 h1).mono ?_
  rintro e w1 ⟨A1, k1, n1, rfl, q1, q2, hb, q3, q4⟩
  have B1 := Lib.hid (chain (chain_alloc (Below.refl _ w) _) hb)
  have Q1 := Lib.hid q1; have Q2 := Lib.hid q2; have Q3 := Lib.hid q3; have Q4 := Lib.hid q4
  clear q1 q2 q3 q4 hb
  go_wp2_with fail
  go_ret
  exact ⟨A1, k1, n1, rfl, Q1.out, Q2.out, B1.out, Q3.out, Q4.out⟩

/-- A party that closes, ahead of its first word. -/
def ClZ (w : World) (g : Nat) : Prop := w.heap[g]? = some (.cells #[.int .i64 0, .slice none 0 0, .slice none 0 0] 146 (0, 0))
theorem ClZ.lt {w : World} {g : Nat} (H : ClZ w g) : g < w.heap.size := (Array.getElem?_eq_some_iff.1 H).1
theorem ClZ.kept {w w' : World} {g : Nat} (H : ClZ w g) (e : w'.heap[g]? = w.heap[g]?) : ClZ w' g := e.trans H
theorem ClZ.cells {w : World} {g : Nat} (H : ClZ w g) : w.cell? ⟨g, 0, none⟩ = some (.int .i64 0) ∧ w.cell? ⟨g, 1, none⟩ = some (.slice none 0 0) ∧ w.cell? ⟨g, 2, none⟩ = some (.slice none 0 0) := by
  refine ⟨?_, ?_, ?_⟩ <;> (rw [Lib.cell_of_heap H]; rfl)
theorem ClZ.frozen {w : World} {g : Nat} (H : ClZ w g) (j : Nat) : w.frozen? ⟨g, j, none⟩ = false := Lib.frozen_of_heap H j
theorem ClZ.set {w : World} {g : Nat} (H : ClZ w g) (a : Int) (Y : Option Addr) (nY cY gs u : Nat) : ClB (((w.setCell ⟨g, 0, none⟩ (.int .i64 a)).setCell ⟨g, 1, none⟩ (.slice Y nY cY)).setCell ⟨g, 2, none⟩ (.slice (some ⟨gs, 0, none⟩) u u)) g a Y nY cY gs u :=
  Lib.heap_setCell_same (Lib.heap_setCell_same (Lib.heap_setCell_same H _) _) _

set_option maxHeartbeats 2000000 in
set_option maxRecDepth 100000 in
theorem pline13 (c h x : Int) (A X W : Option Addr) (cA n nX cX nW cW : Nat) (ls : List Ly) (xs ws : List UInt64) (a : Int) (z : UInt64) (s l f u : Nat) (i : Int) (w : World) (hx : Rl w A ls) (ln : n = ls.length) (hn : n ≤ 60) (hX : Rg ucells w X xs) (lX : nX = xs.length) (hW : Rg ucells w W ws) (lW : nW = ws.length)
    (he : errN ⟨c, h, x, ls⟩ = 0) (hs : s < (stagesN ⟨c, h, x, ls⟩).length) (hl : l = stgN ⟨c, h, x, ls⟩ s) (hf : f = fromN ⟨c, h, x, ls⟩ s) (hu : (atN ⟨c, h, x, ls⟩ (l : Int)).u.n = (u : Int)) (hxi : (xs.length : Int) = inN ⟨c, h, x, ls⟩ (s : Nat)) (hwi : (ws.length : Int) = totW (knN ⟨c, h, x, ls⟩)) :
    Calls Try.prog 104 #[.agg #[.int .i64 c, .int .i64 h, .int .i64 x, .slice A n cA, .int .i64 a, .int .u64 (uz z), .int .i64 (l : Int), .int .i64 (f : Int), .int .i64 i, .int .i64 (u : Int)], .slice X nX cX, .slice W nW cW] w (RowTo ucells (goesU ⟨c, h, x, ls⟩ a z s xs ws) w) := by
  obtain ⟨m, hm⟩ : ∃ m, m = manyN ⟨c, h, x, ls⟩ s := ⟨_, rfl⟩
  obtain ⟨op, hop⟩ : ∃ op, op = opA ⟨c, h, x, ls⟩ a z f xs ws := ⟨_, rfl⟩
  obtain ⟨g, hg⟩ : ∃ g, g = w.heap.size + 1 := ⟨_, rfl⟩
  have bd := many_bd he hs
  have gb := gates_bd (c := c) (h := h) (x := x) (ls := ls)
  rw [← hf, ← hm] at bd
  have m5 : m ≤ 512 := by omega
  have GO : Hid (goesU ⟨c, h, x, ls⟩ a z s xs ws = sayL op m) := by show _ = _; unfold goesU; rw [hop, hf, hm]
  have CE : Hid (∀ O wA, Below w.heap.size w wA → OpJ w g X nX cX W nW cW op O 0 wA → Calls Try.prog 106 #[.agg #[.int .i64 c, .int .i64 h, .int .i64 x, .slice A n cA, .int .i64 a, .int .u64 (uz z), .int .i64 (l : Int), .int .i64 (f : Int), .int .i64 i, .int .i64 (u : Int)], .func (.func 108) #[.pointer (some ⟨g, 0, none⟩)] #[]] wA fun e w' => e = .returned (.tuple #[]) ∧ Goes w.heap.size (OpJ w g X nX cX W nW cW op) O wA m w') := fun O wA hb h0 =>
    each13 108 (.pointer (some ⟨g, 0, none⟩)) (OpJ w g X nX cX W nW cW op) w (by intro args w; go_simp) (fun _ _ _ h => h.owns) (fun _ _ _ _ h hb => h.below hb) c h x A cA n ls a z s l f u m i hx ln hn he hs hl hf hm hu
      (fun O k wk hk hj => by
        have gi := gate_in he hs (j := k) (by rw [← hm]; exact hk)
        rw [← hf] at gi
        exact open13 w g X W nX cX nW cW xs ws op hX lX hW lW O k wk _ _ _ (halfU z a (UInt64.ofNat (f + k))) (by omega) gi.1 (by rw [lX, hxi]; exact gi.2.1) (by rw [lW, hwi]; exact gi.2.2.1) (by rw [hop]; rfl) hj) O wA hb h0
  have BA := chain_alloc (chain_alloc (Below.refl _ w) (.cells #[.int .i64 c, .int .i64 h, .int .i64 x, .slice A n cA, .int .i64 a, .int .u64 (uz z), .int .i64 (l : Int), .int .i64 (f : Int), .int .i64 i, .int .i64 (u : Int)] 61)) (.cells #[.slice X nX cX, .slice W nW cW, .slice none 0 0] 150)
  obtain ⟨tb0, tb1⟩ := two_new w (.cells #[.int .i64 c, .int .i64 h, .int .i64 x, .slice A n cA, .int .i64 a, .int .u64 (uz z), .int .i64 (l : Int), .int .i64 (f : Int), .int .i64 i, .int .i64 (u : Int)] 61) (.cells #[.slice X nX cX, .slice W nW cW, .slice none 0 0] 150)
  have P0 : VB ((w.alloc (.cells #[.int .i64 c, .int .i64 h, .int .i64 x, .slice A n cA, .int .i64 a, .int .u64 (uz z), .int .i64 (l : Int), .int .i64 (f : Int), .int .i64 i, .int .i64 (u : Int)] 61)).alloc (.cells #[.slice X nX cX, .slice W nW cW, .slice none 0 0] 150)) w.heap.size c h x (.slice A n cA) a z l f i u := tb0
  have J0 : Hid (OpJ w g X nX cX W nW cW op (fun b => b = g ∨ (Value.slice none 0 0).ownBlock = some b) 0 ((w.alloc (.cells #[.int .i64 c, .int .i64 h, .int .i64 x, .slice A n cA, .int .i64 a, .int .u64 (uz z), .int .i64 (l : Int), .int .i64 (f : Int), .int .i64 i, .int .i64 (u : Int)] 61)).alloc (.cells #[.slice X nX cX, .slice W nW cW, .slice none 0 0] 150))) :=
    ⟨_, by rw [hg]; exact tb1, World.ownsRow_nil _ _ _ _, BA, by omega, fun _ => Iff.rfl⟩
  have BB := Lib.hid BA
  clear hx ln hX lX hW lW he hs hl hf hu hxi hwi hm hop bd gb BA tb0 tb1
  go_enter Try.func104, Try.ntmps104
  obtain ⟨c0, c1, c2, c3, c4, c5, c6, c7, c8, c9⟩ := P0.cells
  clear P0
  go_wp2_with fail
  rw [← hg]
  refine (CE.out _ _ BB.out J0.out).mono ?_
  rintro e w1 ⟨rfl, O1, ⟨s1, q1, q2, q3, q4, q5⟩, q6, q7⟩
  obtain ⟨A1, k1, rfl, e1, e2, e3, e4⟩ := own_cap ucells_len (by decide) q2
  have E1 := Lib.hid e1; have E2 := Lib.hid e2; have E3 := Lib.hid e3; have E4 := Lib.hid e4; have Q3 := Lib.hid q3
  have z2 := q1.cells.2.2
  rw [hg] at z2
  clear e1 e2 e3 e4 q1 q2 q3 q4 q5 q6 q7 c0 c1 c2 c3 c4 c5 c6 c7 c8 c9
  go_wp2_with fail
  go_ret
  exact ⟨A1, k1, 2 * m, rfl, by rw [GO.out]; exact E1.out, by rw [GO.out]; exact E2.out, Q3.out, E3.out, E4.out⟩

set_option maxHeartbeats 2000000 in
set_option maxRecDepth 100000 in
theorem pbehind13 (c h x : Int) (A Y : Option Addr) (cA n nY cY : Nat) (ls : List Ly) (ms ts : List UInt64) (a : Int) (z : UInt64) (s l f u : Nat) (i : Int) (w : World) (hx : Rl w A ls) (ln : n = ls.length) (hn : n ≤ 60) (hY : Rg ucells w Y (addU ms ts)) (lY : nY = (addU ms ts).length) (cy : nY ≤ cY)
    (he : errN ⟨c, h, x, ls⟩ = 0) (hs : s < (stagesN ⟨c, h, x, ls⟩).length) (hl : l = stgN ⟨c, h, x, ls⟩ s) (hf : f = fromN ⟨c, h, x, ls⟩ s) (hu : (atN ⟨c, h, x, ls⟩ (l : Int)).u.n = (u : Int)) (lm : ms.length = 2 * manyN ⟨c, h, x, ls⟩ s) (lt : ts.length = 2 * manyN ⟨c, h, x, ls⟩ s) :
    Calls Try.prog 103 #[.agg #[.int .i64 c, .int .i64 h, .int .i64 x, .slice A n cA, .int .i64 a, .int .u64 (uz z), .int .i64 (l : Int), .int .i64 (f : Int), .int .i64 i, .int .i64 (u : Int)], .slice Y nY cY] w (RowTo ucells (poolsU ⟨c, h, x, ls⟩ (l + 1) (sumsU ⟨c, h, x, ls⟩ a z s ms ts)) w) := by
  obtain ⟨i0, hi, hz0, hz1, hz2⟩ := info_parts Try.info27
  obtain ⟨m, hm⟩ : ∃ m, m = manyN ⟨c, h, x, ls⟩ s := ⟨_, rfl⟩
  obtain ⟨at', hat⟩ : ∃ at' : Nat → Nat, at' = fun j => (gtN ⟨c, h, x, ls⟩ (f + j)).a.toNat := ⟨_, rfl⟩
  obtain ⟨cl, hcl⟩ : ∃ cl : Nat → UInt64, cl = clA a z f ms ts := ⟨_, rfl⟩
  obtain ⟨ss, hss⟩ : ∃ ss, ss = addU ms ts := ⟨_, rfl⟩
  have ls2 : ss.length = 2 * m := by rw [hss, hm]; unfold addU; rw [List.length_zipWith, lm, lt]; omega
  have bd := many_bd he hs
  have gb := gates_bd (c := c) (h := h) (x := x) (ls := ls)
  rw [← hf, ← hm] at bd
  have m5 : m ≤ 512 := by omega
  have ub := size_bd (atN ⟨c, h, x, ls⟩ (l : Int)).u
  have u8 : u ≤ 128 := by omega
  have SU : Hid (sumsU ⟨c, h, x, ls⟩ a z s ms ts = accL at' cl (noughts u) m) := by show _ = _; unfold sumsU; rw [hat, hcl, ← hl, ← hf, ← hm, hu, Int.toNat_natCast]
  rw [← hss] at hY lY
  have HX := Lib.hid hx; have LX := Lib.hid ln
  have HYR := Lib.hid hY; have LYY := Lib.hid lY; have LS2 := Lib.hid ls2; have CY := Lib.hid cy
  have CE : Hid (∀ g gs O wA, Below w.heap.size w wA → ClJ w g gs a ss u at' cl O 0 wA → Calls Try.prog 106 #[.agg #[.int .i64 c, .int .i64 h, .int .i64 x, .slice A n cA, .int .i64 a, .int .u64 (uz z), .int .i64 (l : Int), .int .i64 (f : Int), .int .i64 i, .int .i64 (u : Int)], .func (.func 107) #[.pointer (some ⟨g, 0, none⟩)] #[]] wA fun e w' => e = .returned (.tuple #[]) ∧ Goes w.heap.size (ClJ w g gs a ss u at' cl) O wA m w') := fun g gs O wA hb h0 =>
    each13 107 (.pointer (some ⟨g, 0, none⟩)) (ClJ w g gs a ss u at' cl) w (by intro args w; go_simp) (fun _ _ _ h => h.owns) (fun _ _ _ _ h hb => h.below hb) c h x A cA n ls a z s l f u m i hx ln hn he hs hl hf hm hu
      (fun O k wk hk hj => by
        have gi := gate_in he hs (j := k) (by rw [← hm]; exact hk)
        rw [← hf, ← hl, hu] at gi
        have ga : (gtN ⟨c, h, x, ls⟩ (f + k)).a = (((gtN ⟨c, h, x, ls⟩ (f + k)).a.toNat : Nat) : Int) := by omega
        rw [ga]
        have g0 : ∀ (us : List UInt64) (j : Nat), j < us.length → us[j]? = some (ug us (j : Int)) := fun us j hj => by
          unfold ug
          rw [Int.toNat_natCast, List.getElem?_eq_getElem hj]; simp [List.getD_eq_getElem?_getD, hj]
        have ga2 : ∀ j : Nat, j < 2 * m → ss[j]? = some (ug ms (j : Int) + ug ts (j : Int)) := fun j hj => by
          rw [hss]
          unfold addU
          rw [List.getElem?_zipWith, g0 ms j (by rw [lm, ← hm]; exact hj), g0 ts j (by rw [lt, ← hm]; exact hj)]
        exact close13 w g gs a ss u at' cl O k wk _ _ _ (halfU z a (UInt64.ofNat (f + k))) (ug ms ((2 * k : Nat) : Int) + ug ts ((2 * k : Nat) : Int)) (ug ms ((2 * k + 1 : Nat) : Int) + ug ts ((2 * k + 1 : Nat) : Int)) (by rw [ls2]; omega) (by rw [ls2]; omega) (by have := gi.2.2.2; omega) (by rw [hat]) (ga2 _ (by omega)) (ga2 _ (by omega)) (by rw [hcl]; rfl) hj) O wA hb h0
  have LL : Hid (l + 1 ≤ ls.length ∧ (u : Int) = (endS ⟨c, h, x⟩ (ls.take (l + 1))).n) := by
    have q1 := (stg_at he hs).1
    rw [← hl] at q1
    refine ⟨q1, ?_⟩
    rw [← hu, at_some he (get_ly q1), run_end c h x ls (get_ly q1)]
  have HE := Lib.hid he
  have l60 : l ≤ 60 := by have := LL.out.1; rw [← ln] at this; omega
  have v1 : IntKind.i64.wrap ((l : Int) + 1) = ((l + 1 : Nat) : Int) := next_i64 rfl (Nat.lt_succ_self l) (by omega)
  have v2 : wrap64 ((l : Int) + 1) = ((l + 1 : Nat) : Int) := next_wrap rfl (Nat.lt_succ_self l) (by omega)
  obtain ⟨l1, hl1⟩ : ∃ l1, l1 = l + 1 := ⟨_, rfl⟩
  rw [← hl1] at v1 v2 LL ⊢
  have V1 := Lib.hid v1; have V2 := Lib.hid v2
  have hmk : ∀ w : World, (Instr.makeSlice 28 (.int .i64 (u : Int)) (.int .i64 (u : Int))).run Try.prog w = .ok (.slice (some ⟨w.heap.size, 0, none⟩) u u) (w.alloc (.cells (madeCells #[.int .u64 0] u) 27)) := fun w => by
    have := run_make (P := Try.prog) w 28 27 i0 _ Try.underlying28 hi hz0 .i64 .i64 u u (by omega) (Int.le_refl _) (by rw [hz2]; omega) (by omega)
    rw [hz1, Nat.mul_one] at this
    exact this
  have P0 := VB.new w c h x (.slice A n cA) a z l f i u
  have BA := chain_alloc (Below.refl _ w) (.cells #[.int .i64 c, .int .i64 h, .int .i64 x, .slice A n cA, .int .i64 a, .int .u64 (uz z), .int .i64 (l : Int), .int .i64 (f : Int), .int .i64 i, .int .i64 (u : Int)] 61)
  clear hx ln hY lY he hs hl hf hu hm hat hcl hss ls2 bd gb ub v1 v2 lm lt cy hl1
  go_enter Try.func103, Try.ntmps103
  go_wp2_with fail
  obtain ⟨bp, hbp⟩ : ∃ bp, bp = w.heap.size := ⟨_, rfl⟩
  rw [← hbp] at P0 ⊢
  generalize w.alloc (.cells #[.int .i64 c, .int .i64 h, .int .i64 x, .slice A n cA, .int .i64 a, .int .u64 (uz z), .int .i64 (l : Int), .int .i64 (f : Int), .int .i64 i, .int .i64 (u : Int)] 61) = w2 at BA P0 ⊢
  have B2 := Lib.hid BA
  have PB0 := Lib.hid P0
  obtain ⟨c0, c1, c2, c3, c4, c5, c6, c7, c8, c9⟩ := P0.cells
  have l4 := P0.lt; have l9 := P0.lt
  have HBP : Hid (w.heap.size ≤ bp) := by show _ ≤ _; omega
  clear P0 BA hbp c0 c1 c2 c3 c5 c6 c7 c8
  refine wp_region_noPanic ?_
  refine wp_region_held_drew (S := fun w' => w'.cell? ⟨bp, 4, none⟩ = some (.int .i64 a) ∧ w'.cell? ⟨bp, 9, none⟩ = some (.int .i64 (u : Int))) (by kernel_rfl) ⟨c4, c9⟩ (fun hHeld => ?_)
  have hd := below_drew w2
  replace c4 := (hd.cell (p := ⟨bp, 4, none⟩) l4).trans c4
  replace l4 := Nat.lt_of_lt_of_le l4 hd.size
  replace c9 := (hd.cell (p := ⟨bp, 9, none⟩) l9).trans c9
  replace l9 := Nat.lt_of_lt_of_le l9 hd.size
  generalize w2.drew = wq1 at hHeld hd c4 l4 c9 l9 ⊢
  have BD : Hid (Below wq1.heap.size wq1 wq1) := Below.refl _ _
  refine wpAnyH_take (i := 0) (v := ?vv3001) (by simp only [List.getElem?_toArray, List.getElem?_cons_zero]; rfl) (by kernel_rfl) (by kernel_rfl) (by kernel_rfl) (fun _ _ _ h => h) (Or.inl ⟨by rfl, ?yy3001⟩) (by assumption) ?rr3001
  case yy3001 => (intro w hSw; (try dsimp only at hSw); go_simp; first | done | with_reducible rfl)
  simp only [Act.put, List.setIfInBounds_toArray, List.set_cons_zero, List.set_cons_succ]
  refine wpAnyH_take (i := 1) (v := ?vv3002) (by simp only [List.getElem?_toArray, List.getElem?_cons_zero, List.getElem?_cons_succ]; rfl) (by kernel_rfl) (by kernel_rfl) (by kernel_rfl) (fun _ _ _ h => h) (Or.inl ⟨by rfl, ?yy3002⟩) (by assumption) ?rr3002
  case yy3002 => (intro w hSw; (try dsimp only at hSw); go_simp; first | done | with_reducible rfl)
  simp only [Act.put, List.setIfInBounds_toArray, List.set_cons_zero, List.set_cons_succ]
  refine wpAnyH_take (i := 2) (v := ?vv3003) (by simp only [List.getElem?_toArray, List.getElem?_cons_zero, List.getElem?_cons_succ]; rfl) (by kernel_rfl) (by kernel_rfl) (by kernel_rfl) (fun _ _ _ h => h) (Or.inl ⟨by rfl, ?yy3003⟩) (by assumption) ?rr3003
  case yy3003 => (intro w hSw; (try dsimp only at hSw); go_simp; first | done | with_reducible rfl)
  simp only [Act.put, List.setIfInBounds_toArray, List.set_cons_zero, List.set_cons_succ]
  refine wpAnyH_take (i := 3) (v := ?vv3004) (by simp only [List.getElem?_toArray, List.getElem?_cons_zero, List.getElem?_cons_succ]; rfl) (by kernel_rfl) (by kernel_rfl) (by kernel_rfl) (fun _ _ _ h => h) (Or.inl ⟨by rfl, ?yy3004⟩) (by assumption) ?rr3004
  case yy3004 => (intro w hSw; (try dsimp only at hSw); go_simp; first | done | with_reducible rfl)
  simp only [Act.put, List.setIfInBounds_toArray, List.set_cons_zero, List.set_cons_succ]
  refine wpAnyH_take (i := 4) (v := ?vv3005) (by simp only [List.getElem?_toArray, List.getElem?_cons_zero, List.getElem?_cons_succ]; rfl) (by kernel_rfl) (by kernel_rfl) (by kernel_rfl) (fun _ _ _ h => h) (Or.inl ⟨by rfl, ?yy3005⟩) (by assumption) ?rr3005
  case yy3005 => (intro w hSw; (try dsimp only at hSw); go_simp; first | done | with_reducible rfl)
  simp only [Act.put, List.setIfInBounds_toArray, List.set_cons_zero, List.set_cons_succ]
  refine wpAnyH_ready (rs := [5, 7]) (by kernel_rfl) (by simp) ?_
  refine AllReadyH.cons (by simp only [List.getElem?_toArray, List.getElem?_cons_zero, List.getElem?_cons_succ]; rfl) (fun K hK => ?_) ?_
  · skip
    go_simp
    clear hHeld
    obtain ⟨gs, hgs⟩ : ∃ b, b = wq1.heap.size := ⟨_, rfl⟩
    have RS : Hid (RB (wq1.alloc (.cells (madeCells #[.int .u64 0] u) 27)) gs (noughts u)) := by rw [hgs]; exact RB.start wq1 u
    have sl : wq1.heap.size ≤ gs := by rw [hgs]; exact BD.out.size
    rw [← hgs]
    clear hgs
    replace BD := Lib.hid (chain_alloc BD.out (.cells (madeCells #[.int .u64 0] u) 27))
    refine hK.out _ _ ⟨(BD.out.cell (p := ⟨bp, 4, none⟩) l4).trans c4, (BD.out.cell (p := ⟨bp, 9, none⟩) l9).trans c9⟩ (fun hHeld => ?_)
    clear hK K
    try simp only [Act.put, List.setIfInBounds_toArray, List.set_cons_zero, List.set_cons_succ]
    generalize wq1.alloc (.cells (madeCells #[.int .u64 0] u) 27) = wq2 at hHeld RS BD ⊢
    refine wpAnyH_take (i := 6) (v := ?vv3006) (by simp only [List.getElem?_toArray, List.getElem?_cons_zero, List.getElem?_cons_succ]; rfl) (by kernel_rfl) (by kernel_rfl) (by kernel_rfl) (fun _ _ _ h => h) (Or.inl ⟨by rfl, ?yy3006⟩) (by assumption) ?rr3006
    case yy3006 => (intro w hSw; (try dsimp only at hSw); go_simp; first | done | with_reducible rfl)
    simp only [Act.put, List.setIfInBounds_toArray, List.set_cons_zero, List.set_cons_succ]
    refine wpAnyH_ready (rs := [7]) (by kernel_rfl) (by simp) ?_
    refine AllReadyH.cons (by simp only [List.getElem?_toArray, List.getElem?_cons_zero, List.getElem?_cons_succ]; rfl) (fun K hK => ?_) ?_
    · skip
      go_simp
      clear hHeld
      obtain ⟨g, hg⟩ : ∃ b, b = wq2.heap.size := ⟨_, rfl⟩
      have RZ : Hid (ClZ (wq2.alloc (.cells #[.int .i64 0, .slice none 0 0, .slice none 0 0] 146)) g) := by rw [hg]; exact heap_alloc_new wq2 _
      have gl : wq1.heap.size ≤ g := by rw [hg]; exact BD.out.size
      have NE : Hid (g ≠ gs) := by have := RS.out.lt; show g ≠ gs; omega
      replace RS := Lib.hid (RS.out.kept (Lib.alloc_old _ (.cells #[.int .i64 0, .slice none 0 0, .slice none 0 0] 146) _ RS.out.lt))
      rw [← hg]
      clear hg
      replace BD := Lib.hid (chain_alloc BD.out (.cells #[.int .i64 0, .slice none 0 0, .slice none 0 0] 146))
      refine hK.out _ _ ⟨(BD.out.cell (p := ⟨bp, 4, none⟩) l4).trans c4, (BD.out.cell (p := ⟨bp, 9, none⟩) l9).trans c9⟩ (fun hHeld => ?_)
      clear hK K
      try simp only [Act.put, List.setIfInBounds_toArray, List.set_cons_zero, List.set_cons_succ]
      generalize wq2.alloc (.cells #[.int .i64 0, .slice none 0 0, .slice none 0 0] 146) = wq3 at hHeld RZ BD RS ⊢
      refine wpAnyH_ready (rs := [8]) (by kernel_rfl) (by simp) ?_
      refine AllReadyH.cons (by simp only [List.getElem?_toArray, List.getElem?_cons_zero, List.getElem?_cons_succ]; rfl) (fun K hK => ?_) ?_
      · skip
        obtain ⟨z0, z1, z2⟩ := RZ.out.cells
        have f0 := RZ.out.frozen 0
        have f1 := RZ.out.frozen 1
        have f2 := RZ.out.frozen 2
        go_simp
        clear hHeld
        replace RZ := Lib.hid (RZ.out.set a Y nY cY gs u)
        have G9 : Hid (wq1.heap.size ≤ g) := gl
        replace RS := Lib.hid (show RB (((wq3.setCell ⟨g, 0, none⟩ (.int .i64 a)).setCell ⟨g, 1, none⟩ (.slice Y nY cY)).setCell ⟨g, 2, none⟩ (.slice (some ⟨gs, 0, none⟩) u u)) gs (noughts u) from ((RS.out.kept (Below.heap_setCell _ ⟨g, 0, none⟩ _ gs (Ne.symm NE.out))).kept (Below.heap_setCell _ ⟨g, 1, none⟩ _ gs (Ne.symm NE.out))).kept (Below.heap_setCell _ ⟨g, 2, none⟩ _ gs (Ne.symm NE.out)))
        replace BD := Lib.hid (below_set3t BD.out gl 0 (.int .i64 a) (.slice Y nY cY) (.slice (some ⟨gs, 0, none⟩) u u))
        refine hK.out _ _ ⟨(BD.out.cell (p := ⟨bp, 4, none⟩) l4).trans c4, (BD.out.cell (p := ⟨bp, 9, none⟩) l9).trans c9⟩ (fun hHeld => ?_)
        clear hK K
        try simp only [Act.put, List.setIfInBounds_toArray, List.set_cons_zero, List.set_cons_succ]
        generalize (((wq3.setCell ⟨g, 0, none⟩ (.int .i64 a)).setCell ⟨g, 1, none⟩ (.slice Y nY cY)).setCell ⟨g, 2, none⟩ (.slice (some ⟨gs, 0, none⟩) u u)) = wq4 at hHeld RZ RS BD ⊢
        clear z0 z1 z2 f0 f1 f2
        refine wpAnyH_done (by kernel_rfl) ?_ _
        refine NoPanic.normal ?_
        clear hHeld
        have BF := chain B2.out (chain hd BD.out)
        have PBF := Lib.hid (PB0.out.below (chain hd BD.out))
        have GE : Hid (w.heap.size ≤ g) := by show _ ≤ _; have := hd.size; have := B2.out.size; omega
        have SE : Hid (w.heap.size ≤ gs) := by show _ ≤ _; have := hd.size; have := B2.out.size; omega
        have NG : Hid (bp ≠ g) := by show bp ≠ g; have := hd.size; have := PB0.out.lt; omega
        have NS : Hid (bp ≠ gs) := by show bp ≠ gs; have := hd.size; have := PB0.out.lt; omega
        have J0 : Hid (ClJ w g gs a ss u at' cl (fun b => b = g ∨ b = gs) 0 wq4) := ⟨Y, nY, cY, RZ.out, by rw [LYY.out]; rfl, CY.out, by simpa using HYR.out, RS.out, BF, GE.out, SE.out, NE.out, fun _ => Iff.rfl⟩
        have BFF := Lib.hid BF
        obtain ⟨c0, c1, c2, c3, c4, c5, c6, c7, c8, c9⟩ := PBF.out.cells
        clear hd BD RZ RS BF sl gl l4 l9
        go_wp2_with fail
        refine (CE.out g gs _ _ BFF.out J0.out).mono ?_
        rintro e w9 ⟨rfl, O1, ⟨A1, n1, k1, q1, q2, q3, q4, q5, q6, q7, q8, q9, q10⟩, kp, sub⟩
        have pk := PBF.out.kept (kp.2 bp PBF.out.lt (fun q => by rcases q with q | q; exact NG.out q; exact NS.out q))
        clear c0 c1 c2 c3 c4 c5 c6 c7 c8 c9
        obtain ⟨c0, c1, c2, c3, c4, c5, c6, c7, c8, c9⟩ := pk.cells
        have z2 := q1.cells.2.2
        have RG := Lib.hid q5.rg
        have B9 := Lib.hid q6
        have v1 := V1.out; have v2 := V2.out
        obtain ⟨us, hus⟩ : ∃ us, us = accL at' cl (noughts u) m := ⟨_, rfl⟩
        rw [← hus] at RG SU
        have lus : u = us.length := by rw [hus, acc_len]; simp [noughts]
        have LUS := Lib.hid lus
        clear q1 q2 q3 q4 q5 q6 q7 q8 q9 q10 kp sub pk hus lus
        go_wp2_with fail
        refine (pools13 c h x A (some ⟨gs, 0, none⟩) cA n u u ls us l1 _ (HX.out.below B9.out) LX.out hn RG.out LUS.out HE.out LL.out.1 (by rw [← LUS.out]; exact LL.out.2)).mono ?_
        rintro e w10 ⟨A9, k9, n9, rfl, m9, r9, hb9, p9⟩
        have M9 := Lib.hid m9; have R9 := Lib.hid r9; have B10 := Lib.hid (chain B9.out hb9); have P9 := Lib.hid (p9 ⟨Nat.le_refl _, by unfold maxLen; omega⟩)
        clear m9 r9 hb9 p9 c0 c1 c2 c3 c4 c5 c6 c7 c8 c9 z2 v1 v2
        go_wp2_with fail
        go_ret
        exact ⟨A9, k9, n9, rfl, by rw [SU.out]; exact M9.out, by rw [SU.out]; exact R9.out, B10.out, P9.out.1, P9.out.2⟩
      exact AllReadyH.nil
    exact AllReadyH.nil
  refine AllReadyH.cons (by simp only [List.getElem?_toArray, List.getElem?_cons_zero, List.getElem?_cons_succ]; rfl) (fun K hK => ?_) ?_
  · skip
    go_simp
    clear hHeld
    obtain ⟨g, hg⟩ : ∃ b, b = wq1.heap.size := ⟨_, rfl⟩
    have RZ : Hid (ClZ (wq1.alloc (.cells #[.int .i64 0, .slice none 0 0, .slice none 0 0] 146)) g) := by rw [hg]; exact heap_alloc_new wq1 _
    have gl : wq1.heap.size ≤ g := by rw [hg]; exact BD.out.size
    rw [← hg]
    clear hg
    replace BD := Lib.hid (chain_alloc BD.out (.cells #[.int .i64 0, .slice none 0 0, .slice none 0 0] 146))
    refine hK.out _ _ ⟨(BD.out.cell (p := ⟨bp, 4, none⟩) l4).trans c4, (BD.out.cell (p := ⟨bp, 9, none⟩) l9).trans c9⟩ (fun hHeld => ?_)
    clear hK K
    try simp only [Act.put, List.setIfInBounds_toArray, List.set_cons_zero, List.set_cons_succ]
    generalize wq1.alloc (.cells #[.int .i64 0, .slice none 0 0, .slice none 0 0] 146) = wq5 at hHeld RZ BD ⊢
    refine wpAnyH_ready (rs := [5]) (by kernel_rfl) (by simp) ?_
    refine AllReadyH.cons (by simp only [List.getElem?_toArray, List.getElem?_cons_zero, List.getElem?_cons_succ]; rfl) (fun K hK => ?_) ?_
    · skip
      go_simp
      clear hHeld
      obtain ⟨gs, hgs⟩ : ∃ b, b = wq5.heap.size := ⟨_, rfl⟩
      have RS : Hid (RB (wq5.alloc (.cells (madeCells #[.int .u64 0] u) 27)) gs (noughts u)) := by rw [hgs]; exact RB.start wq5 u
      have sl : wq1.heap.size ≤ gs := by rw [hgs]; exact BD.out.size
      have NE : Hid (g ≠ gs) := by have := RZ.out.lt; show g ≠ gs; omega
      replace RZ := Lib.hid (RZ.out.kept (Lib.alloc_old _ (.cells (madeCells #[.int .u64 0] u) 27) _ RZ.out.lt))
      rw [← hgs]
      clear hgs
      replace BD := Lib.hid (chain_alloc BD.out (.cells (madeCells #[.int .u64 0] u) 27))
      refine hK.out _ _ ⟨(BD.out.cell (p := ⟨bp, 4, none⟩) l4).trans c4, (BD.out.cell (p := ⟨bp, 9, none⟩) l9).trans c9⟩ (fun hHeld => ?_)
      clear hK K
      try simp only [Act.put, List.setIfInBounds_toArray, List.set_cons_zero, List.set_cons_succ]
      generalize wq5.alloc (.cells (madeCells #[.int .u64 0] u) 27) = wq6 at hHeld RS BD RZ ⊢
      refine wpAnyH_take (i := 6) (v := ?vv3007) (by simp only [List.getElem?_toArray, List.getElem?_cons_zero, List.getElem?_cons_succ]; rfl) (by kernel_rfl) (by kernel_rfl) (by kernel_rfl) (fun _ _ _ h => h) (Or.inl ⟨by rfl, ?yy3007⟩) (by assumption) ?rr3007
      case yy3007 => (intro w hSw; (try dsimp only at hSw); go_simp; first | done | with_reducible rfl)
      simp only [Act.put, List.setIfInBounds_toArray, List.set_cons_zero, List.set_cons_succ]
      refine wpAnyH_ready (rs := [8]) (by kernel_rfl) (by simp) ?_
      refine AllReadyH.cons (by simp only [List.getElem?_toArray, List.getElem?_cons_zero, List.getElem?_cons_succ]; rfl) (fun K hK => ?_) ?_
      · skip
        obtain ⟨z0, z1, z2⟩ := RZ.out.cells
        have f0 := RZ.out.frozen 0
        have f1 := RZ.out.frozen 1
        have f2 := RZ.out.frozen 2
        go_simp
        clear hHeld
        replace RZ := Lib.hid (RZ.out.set a Y nY cY gs u)
        have G9 : Hid (wq1.heap.size ≤ g) := gl
        replace RS := Lib.hid (show RB (((wq6.setCell ⟨g, 0, none⟩ (.int .i64 a)).setCell ⟨g, 1, none⟩ (.slice Y nY cY)).setCell ⟨g, 2, none⟩ (.slice (some ⟨gs, 0, none⟩) u u)) gs (noughts u) from ((RS.out.kept (Below.heap_setCell _ ⟨g, 0, none⟩ _ gs (Ne.symm NE.out))).kept (Below.heap_setCell _ ⟨g, 1, none⟩ _ gs (Ne.symm NE.out))).kept (Below.heap_setCell _ ⟨g, 2, none⟩ _ gs (Ne.symm NE.out)))
        replace BD := Lib.hid (below_set3t BD.out gl 0 (.int .i64 a) (.slice Y nY cY) (.slice (some ⟨gs, 0, none⟩) u u))
        refine hK.out _ _ ⟨(BD.out.cell (p := ⟨bp, 4, none⟩) l4).trans c4, (BD.out.cell (p := ⟨bp, 9, none⟩) l9).trans c9⟩ (fun hHeld => ?_)
        clear hK K
        try simp only [Act.put, List.setIfInBounds_toArray, List.set_cons_zero, List.set_cons_succ]
        generalize (((wq6.setCell ⟨g, 0, none⟩ (.int .i64 a)).setCell ⟨g, 1, none⟩ (.slice Y nY cY)).setCell ⟨g, 2, none⟩ (.slice (some ⟨gs, 0, none⟩) u u)) = wq7 at hHeld RZ RS BD ⊢
        clear z0 z1 z2 f0 f1 f2
        refine wpAnyH_done (by kernel_rfl) ?_ _
        refine NoPanic.normal ?_
        clear hHeld
        have BF := chain B2.out (chain hd BD.out)
        have PBF := Lib.hid (PB0.out.below (chain hd BD.out))
        have GE : Hid (w.heap.size ≤ g) := by show _ ≤ _; have := hd.size; have := B2.out.size; omega
        have SE : Hid (w.heap.size ≤ gs) := by show _ ≤ _; have := hd.size; have := B2.out.size; omega
        have NG : Hid (bp ≠ g) := by show bp ≠ g; have := hd.size; have := PB0.out.lt; omega
        have NS : Hid (bp ≠ gs) := by show bp ≠ gs; have := hd.size; have := PB0.out.lt; omega
        have J0 : Hid (ClJ w g gs a ss u at' cl (fun b => b = g ∨ b = gs) 0 wq7) := ⟨Y, nY, cY, RZ.out, by rw [LYY.out]; rfl, CY.out, by simpa using HYR.out, RS.out, BF, GE.out, SE.out, NE.out, fun _ => Iff.rfl⟩
        have BFF := Lib.hid BF
        obtain ⟨c0, c1, c2, c3, c4, c5, c6, c7, c8, c9⟩ := PBF.out.cells
        clear hd BD RZ RS BF sl gl l4 l9
        go_wp2_with fail
        refine (CE.out g gs _ _ BFF.out J0.out).mono ?_
        rintro e w9 ⟨rfl, O1, ⟨A1, n1, k1, q1, q2, q3, q4, q5, q6, q7, q8, q9, q10⟩, kp, sub⟩
        have pk := PBF.out.kept (kp.2 bp PBF.out.lt (fun q => by rcases q with q | q; exact NG.out q; exact NS.out q))
        clear c0 c1 c2 c3 c4 c5 c6 c7 c8 c9
        obtain ⟨c0, c1, c2, c3, c4, c5, c6, c7, c8, c9⟩ := pk.cells
        have z2 := q1.cells.2.2
        have RG := Lib.hid q5.rg
        have B9 := Lib.hid q6
        have v1 := V1.out; have v2 := V2.out
        obtain ⟨us, hus⟩ : ∃ us, us = accL at' cl (noughts u) m := ⟨_, rfl⟩
        rw [← hus] at RG SU
        have lus : u = us.length := by rw [hus, acc_len]; simp [noughts]
        have LUS := Lib.hid lus
        clear q1 q2 q3 q4 q5 q6 q7 q8 q9 q10 kp sub pk hus lus
        go_wp2_with fail
        refine (pools13 c h x A (some ⟨gs, 0, none⟩) cA n u u ls us l1 _ (HX.out.below B9.out) LX.out hn RG.out LUS.out HE.out LL.out.1 (by rw [← LUS.out]; exact LL.out.2)).mono ?_
        rintro e w10 ⟨A9, k9, n9, rfl, m9, r9, hb9, p9⟩
        have M9 := Lib.hid m9; have R9 := Lib.hid r9; have B10 := Lib.hid (chain B9.out hb9); have P9 := Lib.hid (p9 ⟨Nat.le_refl _, by unfold maxLen; omega⟩)
        clear m9 r9 hb9 p9 c0 c1 c2 c3 c4 c5 c6 c7 c8 c9 z2 v1 v2
        go_wp2_with fail
        go_ret
        exact ⟨A9, k9, n9, rfl, by rw [SU.out]; exact M9.out, by rw [SU.out]; exact R9.out, B10.out, P9.out.1, P9.out.2⟩
      exact AllReadyH.nil
    exact AllReadyH.nil
  exact AllReadyH.nil

end Go.Proofs.Ytklgjhldebdegaa
