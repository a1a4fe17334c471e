/-
  What 'Print' answers of a network, whether two networks are alike, and what 'kindOf' answers of a word.
-/
import Derived.Test.YtmlflmlgjjjmfaaDoorForm
import Derived.Deep.QuietTactic
namespace Go.Proofs.YtmlflmlgjjjmfaaDoor
open Go.RowKit

theorem shape_neq (a b c : Int) (w : World) :
    (binOp .neq 23 (.agg #[.int .i64 a, .int .i64 b, .int .i64 c]) (.agg #[.int .i64 a, .int .i64 b, .int .i64 c])).run Tryd.prog w = .ok (.bool false) w := by
  have h1 : (a == a) = true := by simp
  have h2 : (b == b) = true := by simp
  have h3 : (c == c) = true := by simp
  go_simp <;> simp_all
theorem lay_neq (a b c d : Int) (w : World) :
    (binOp .neq 42 (.agg #[.int .i64 a, .int .i64 b, .int .i64 c, .int .i64 d]) (.agg #[.int .i64 a, .int .i64 b, .int .i64 c, .int .i64 d])).run Tryd.prog w = .ok (.bool false) w := by
  have h1 : (a == a) = true := by simp
  have h2 : (b == b) = true := by simp
  have h3 : (c == c) = true := by simp
  have h4 : (d == d) = true := by simp
  go_simp <;> simp_all

theorem below_drewN {B : Nat} {a w : World} (h : Below B a w) (n : Nat) : Below B a (w.drewN n) := h.trans (Joins.below_draws _ w n)

set_option maxHeartbeats 1000000 in
theorem same_core (c h x : Int) (A B : Option Addr) (cA cB n : Nat) (ls : List Ly) (w : World) (hx : Rl w A ls) (hy : Rl w B ls) (lx : n = ls.length) (hn : n ≤ 1000) :
    Calls Tryd.prog 17 #[.agg #[.int .i64 c, .int .i64 h, .int .i64 x, .slice A n cA], .agg #[.int .i64 c, .int .i64 h, .int .i64 x, .slice B n cB]] w fun e w' => e = .returned (.bool true) ∧ Below w.heap.size w w' := by
  have HX := Lib.hid hx; have HY := Lib.hid hy; have LX := Lib.hid lx; clear hx hy lx
  have hne : ((n : Int) != (n : Int)) = false := by simp
  have q1 := fun w => shape_neq c h x w
  obtain ⟨W, hW⟩ : ∃ W : World, W = (w.alloc (.cells #[.int .i64 c, .int .i64 h, .int .i64 x, .slice A n cA] 26)).alloc (.cells #[.int .i64 c, .int .i64 h, .int .i64 x, .slice B n cB] 26) := ⟨_, rfl⟩
  have HW := Lib.hid hW
  have HBW : Hid (Below w.heap.size w W) := by rw [hW]; exact ((Below.refl _ w).alloc (Nat.le_refl _) _).alloc (by simp) _
  have HN1 : Hid (NB W w.heap.size c h x (.slice A n cA)) := by rw [hW]; exact (NB.new w c h x _).alloc _
  have HN2 : Hid (NB W (w.heap.size + 1) c h x (.slice B n cB)) := by
    rw [hW]
    have := NB.new (w.alloc (.cells #[.int .i64 c, .int .i64 h, .int .i64 x, .slice A n cA] 26)) c h x (.slice B n cB)
    rwa [show (w.alloc (.cells #[.int .i64 c, .int .i64 h, .int .i64 x, .slice A n cA] 26)).heap.size = w.heap.size + 1 by simp] at this
  clear hW
  go_enter Tryd.func17, Tryd.ntmps17
  go_wp2_with fail
  rw [← HW.out]
  go_loopw [5] (fun i wr => ∃ k : Nat, k ≤ n ∧ i = .int .i64 k ∧ Hid (Below W.heap.size W wr)) (fun i _ => n - (intOf i).toNat)
  case atStart => exact ⟨0, Nat.zero_le _, rfl, Below.refl _ _⟩
  case round =>
    obtain ⟨k, hk, rfl, HB⟩ := hrel
    have HC := Lib.hid (HBW.out.trans (HB.out.mono HBW.out.size))
    obtain ⟨_, _, _, m1⟩ := (HN1.out.below HB.out).cells
    obtain ⟨_, _, _, m2⟩ := (HN2.out.below HB.out).cells
    by_cases hlt : k < n
    · have hkl : k < ls.length := by rw [← LX.out]; exact hlt
      obtain ⟨b1, o1, rfl, l1, q⟩ := HX.out (by omega)
      obtain ⟨b2, o2, rfl, l2, r⟩ := HY.out (by omega)
      obtain ⟨l, hle⟩ : ∃ l, l = ls.getD k Ly.z := ⟨_, rfl⟩
      have hq := (q k hkl).below HC.out l1
      have hr := (r k hkl).below HC.out l2
      rw [← hle] at hq hr
      obtain ⟨p0, p1, p2, p3⟩ := hq
      obtain ⟨s0, s1, s2, s3⟩ := hr
      have q2 := fun w => lay_neq l.k l.o l.s l.t w
      clear q r hle q1
      go_wp2_with fail
      go_quiet (fail)
      go_wp2_with fail
      go_roundw
      case rel => exact ⟨k + 1, by omega, by go_num, below_drewN HB.out _⟩
      case measure => simp [intOf]; omega
    · clear q1
      go_wp2
      go_ret
      exact ⟨rfl, HC.out⟩
theorem same_any (c h x : Int) (A B : Option Addr) (cA cB na nb : Nat) (ls ks : List Ly) (w : World) (hx : Rl w A ls) (hy : Rl w B ks) (lx : na = ls.length) (ly : nb = ks.length) (hn : na ≤ 1000) (he : ls = ks) :
    Calls Tryd.prog 17 #[.agg #[.int .i64 c, .int .i64 h, .int .i64 x, .slice A na cA], .agg #[.int .i64 c, .int .i64 h, .int .i64 x, .slice B nb cB]] w fun e w' => e = .returned (.bool true) ∧ Below w.heap.size w w' := by
  subst he
  obtain rfl : nb = na := by rw [lx, ly]
  exact same_core c h x A B cA cB nb ls w hx hy lx hn

/-! ### The first words of layers' lines -/
def kindsName : String := Rows.descrTellsRow.named.getD 3 ""
def Kd (w : World) : Prop := w.var? Tryd.prog kindsName = some #[.string ⟨#[]⟩, .string ⟨#[99, 111, 110, 118]⟩, .string ⟨#[115, 113, 117, 97, 114, 101]⟩, .string ⟨#[112, 111, 111, 108]⟩, .string ⟨#[100, 101, 110, 115, 101]⟩]
theorem kinds_global : Tryd.prog.globalNamed kindsName = some 0 := by kernel_rfl
theorem Kd.below {w w' : World} (h : Kd w) (hb : Below w.heap.size w w') : Kd w' := Joins.var_stays kinds_global h hb (Nat.le_refl _)
theorem Kd.cells {w : World} (h : Kd w) : w.cell? ⟨0, 0, none⟩ = some (.string ⟨#[]⟩) ∧ w.cell? ⟨0, 1, none⟩ = some (.string ⟨#[99, 111, 110, 118]⟩) ∧ w.cell? ⟨0, 2, none⟩ = some (.string ⟨#[115, 113, 117, 97, 114, 101]⟩) ∧ w.cell? ⟨0, 3, none⟩ = some (.string ⟨#[112, 111, 111, 108]⟩) ∧ w.cell? ⟨0, 4, none⟩ = some (.string ⟨#[100, 101, 110, 115, 101]⟩) :=
  ⟨by rw [World.var?_cell kinds_global h]; rfl, by rw [World.var?_cell kinds_global h]; rfl, by rw [World.var?_cell kinds_global h]; rfl, by rw [World.var?_cell kinds_global h]; rfl, by rw [World.var?_cell kinds_global h]; rfl⟩
/-- What lies in the package's and the library's variables. -/
def Laid (w : World) : Prop := Tab w ∧ Kd w
theorem Laid.below {w w' : World} (h : Laid w) (hb : Below w.heap.size w w') : Laid w' := ⟨h.1.below hb, h.2.below hb⟩

theorem kix0 : ∀ w, (Instr.index 61 (.agg #[.string ⟨#[]⟩, .string ⟨#[99, 111, 110, 118]⟩, .string ⟨#[115, 113, 117, 97, 114, 101]⟩, .string ⟨#[112, 111, 111, 108]⟩, .string ⟨#[100, 101, 110, 115, 101]⟩]) (.int .i64 0)).run Tryd.prog w = .ok (.string ⟨#[]⟩) w := fun _ => by kernel_rfl
theorem kix1 : ∀ w, (Instr.index 61 (.agg #[.string ⟨#[]⟩, .string ⟨#[99, 111, 110, 118]⟩, .string ⟨#[115, 113, 117, 97, 114, 101]⟩, .string ⟨#[112, 111, 111, 108]⟩, .string ⟨#[100, 101, 110, 115, 101]⟩]) (.int .i64 1)).run Tryd.prog w = .ok (.string ⟨#[99, 111, 110, 118]⟩) w := fun _ => by kernel_rfl
theorem kix2 : ∀ w, (Instr.index 61 (.agg #[.string ⟨#[]⟩, .string ⟨#[99, 111, 110, 118]⟩, .string ⟨#[115, 113, 117, 97, 114, 101]⟩, .string ⟨#[112, 111, 111, 108]⟩, .string ⟨#[100, 101, 110, 115, 101]⟩]) (.int .i64 2)).run Tryd.prog w = .ok (.string ⟨#[115, 113, 117, 97, 114, 101]⟩) w := fun _ => by kernel_rfl
theorem kix3 : ∀ w, (Instr.index 61 (.agg #[.string ⟨#[]⟩, .string ⟨#[99, 111, 110, 118]⟩, .string ⟨#[115, 113, 117, 97, 114, 101]⟩, .string ⟨#[112, 111, 111, 108]⟩, .string ⟨#[100, 101, 110, 115, 101]⟩]) (.int .i64 3)).run Tryd.prog w = .ok (.string ⟨#[112, 111, 111, 108]⟩) w := fun _ => by kernel_rfl
theorem kix4 : ∀ w, (Instr.index 61 (.agg #[.string ⟨#[]⟩, .string ⟨#[99, 111, 110, 118]⟩, .string ⟨#[115, 113, 117, 97, 114, 101]⟩, .string ⟨#[112, 111, 111, 108]⟩, .string ⟨#[100, 101, 110, 115, 101]⟩]) (.int .i64 4)).run Tryd.prog w = .ok (.string ⟨#[100, 101, 110, 115, 101]⟩) w := fun _ => by kernel_rfl

theorem text_is {l : List UInt8} {s : ByteArray} (h : (l == s.toList) = true) : bl s = l := by
  rw [toList_bl] at h; exact (by simpa using h : l = bl s).symm
theorem text_not {l : List UInt8} {s : ByteArray} (h : (l == s.toList) = false) : ¬ bl s = l := fun e => by
  rw [toList_bl, e] at h; simp at h
theorem kindL_none {s : ByteArray} (h1 : ([99, 111, 110, 118] == s.toList) = false) (h2 : ([115, 113, 117, 97, 114, 101] == s.toList) = false) (h3 : ([112, 111, 111, 108] == s.toList) = false) (h4 : ([100, 101, 110, 115, 101] == s.toList) = false) : kindL (bl s) = 0 := by
  unfold kindL
  rw [if_neg (show ¬ bl s = kw 1 from text_not h1), if_neg (show ¬ bl s = kw 2 from text_not h2), if_neg (show ¬ bl s = kw 3 from text_not h3), if_neg (show ¬ bl s = kw 4 from text_not h4)]
theorem ret_int {k : IntKind} {a b : Int} (h : a = b) : Ending.returned (.int k a) = .returned (.int k b) := by rw [h]

set_option maxHeartbeats 2000000 in
set_option maxRecDepth 100000 in
theorem kind_any (s : ByteArray) (w : World) (hK : Kd w) :
    Calls Tryd.prog 37 #[.string s] w fun e w' => e = .returned (.int .i64 (kindL (bl s))) ∧ w = w' := by
  obtain ⟨k0, k1, k2, k3, k4⟩ := hK.cells
  clear hK
  have x0 := kix0
  have x1 := kix1
  have x2 := kix2
  have x3 := kix3
  have x4 := kix4
  go_enter Tryd.func37, Tryd.ntmps37
  go_wp2_with fail
  refine wp_loop_rounds 6 ?_
  rw [rounds_succ]
  go_wp2_with fail
  · rename_i h0
    have h0' := h0
    rw [toList_bl, List.isEmpty_iff] at h0'
    have HK := Lib.hid (show kindL (bl s) = 0 by rw [h0']; rfl)
    clear h0'
    go_ret
    exact ⟨ret_int HK.out.symm, rfl⟩
  · rw [rounds_succ]
    go_wp2_with fail
    · rename_i h1
      have HK := Lib.hid (show kindL (bl s) = 1 by rw [text_is h1]; decide)
      go_ret
      exact ⟨ret_int HK.out.symm, rfl⟩
    · rw [rounds_succ]
      go_wp2_with fail
      · rename_i h2
        have HK := Lib.hid (show kindL (bl s) = 2 by rw [text_is h2]; decide)
        go_ret
        exact ⟨ret_int HK.out.symm, rfl⟩
      · rw [rounds_succ]
        go_wp2_with fail
        · rename_i h3
          have HK := Lib.hid (show kindL (bl s) = 3 by rw [text_is h3]; decide)
          go_ret
          exact ⟨ret_int HK.out.symm, rfl⟩
        · rw [rounds_succ]
          go_wp2_with fail
          · rename_i h4
            have HK := Lib.hid (show kindL (bl s) = 4 by rw [text_is h4]; decide)
            go_ret
            exact ⟨ret_int HK.out.symm, rfl⟩
          · rename_i h1 h2 h3 h4
            have HK := Lib.hid (kindL_none h1 h2 h3 h4)
            rw [rounds_succ]
            go_wp2_with fail
            go_ret
            exact ⟨ret_int HK.out.symm, rfl⟩

theorem ib_box4 (w : World) (o : Obj) (T : Nat) (k c h x : Int) : IB ((w.alloc o).alloc (.cells #[.int .i64 k, .int .i64 c, .int .i64 h, .int .i64 x] T)) (w.heap.size + 1) T [k, c, h, x] := by
  have := ib_box (w.alloc o) T [k, c, h, x]
  rwa [show (w.alloc o).heap.size = w.heap.size + 1 by simp] at this
theorem line_len (w : List UInt8) (ns : List Int) (hw : w.length ≤ 6) (hn : ns.length ≤ 3) : (lineW w ns).length ≤ 40 := by
  have h : ∀ ns : List Int, bulk (ns.map numL) ≤ 7 * ns.length := by
    intro ns
    induction ns with
    | nil => simp [bulk]
    | cons n ns ih =>
      have := num_len n
      simp only [List.map_cons, List.length_cons, bulk, List.sum_cons] at ih ⊢
      omega
  have h1 := h ns
  have h2 := bulk_lay 32 (w :: ns.map numL)
  unfold lineW joinL
  split
  · rw [List.length_dropLast, h2]
    simp only [bulk, List.map_cons, List.sum_cons] at h1 ⊢
    omega
  · simp
theorem ly_len (l : Ly) : (lyL l).length ≤ 40 := line_len _ _ (kw_len _) (by rw [nums_len]; exact offs_len _)
theorem bulk_net (n : Nt) : bulk (linesN n) ≤ 41 * (n.ls.length + 1) := by
  have h : ∀ ls : List Ly, bulk (ls.map lyL) ≤ 41 * ls.length := by
    intro ls
    induction ls with
    | nil => simp [bulk]
    | cons l ls ih =>
      have := ly_len l
      simp only [List.map_cons, List.length_cons, bulk, List.sum_cons] at ih ⊢
      omega
  have h1 := h n.ls
  have h2 : (inL n).length ≤ 40 := line_len _ _ (by decide) (by simp)
  simp only [linesN, bulk, List.map_cons, List.sum_cons] at h1 ⊢
  omega

/-- What is written of a layer. -/
theorem ly_write (L : Ly) (s : ByteArray) (b : Nat) (w : World) (hT : Tab w) (h : IB w b 57 [L.k, L.o, L.s, L.t]) (hs : bl s = kw L.k) :
    Calls Tryd.prog 29 #[.string s, .func (.func 30) #[.pointer (some ⟨b, 0, none⟩)] #[]] w fun e w' => e = .returned (.string (ba (lyL L))) ∧ Below w.heap.size w w' := by
  have := write_any 30 b 57 [L.k, L.o, L.s, L.t] (offs L.k) s w hT h offs_lt (by have := offs_len L.k; omega) (by rw [size_bl, hs]; have := kw_len L.k; omega) enter30 (ly_numbers b _ _)
  rw [vals_nums, hs] at this
  exact this
theorem in_write (c h x : Int) (ls : List Ly) (b : Nat) (w : World) (hT : Tab w) (H : IB w b 53 [c, h, x]) :
    Calls Tryd.prog 29 #[.string ⟨#[105, 110]⟩, .func (.func 25) #[.pointer (some ⟨b, 0, none⟩)] #[]] w fun e w' => e = .returned (.string (ba (inL ⟨c, h, x, ls⟩))) ∧ Below w.heap.size w w' :=
  write_any 25 b 53 [c, h, x] [0, 1, 2] ⟨#[105, 110]⟩ w hT H (by simp) (by decide) (by decide) enter25 (pic_nums _ _)

set_option maxHeartbeats 4000000 in
set_option maxRecDepth 100000 in
theorem print_any (c h x : Int) (A : Option Addr) (cA n : Nat) (ls : List Ly) (w : World) (hx : Rl w A ls) (ln : n = ls.length) (hn : n ≤ 1000) (hL : Laid w) :
    Calls Tryd.prog 15 #[.agg #[.int .i64 c, .int .i64 h, .int .i64 x, .slice A n cA]] w fun e w' => e = .returned (.string (ba (printL ⟨c, h, x, ls⟩))) ∧ Below w.heap.size w w' := by
  obtain ⟨i0, hi, hz0, hz1, hz2⟩ := info_parts Tryd.info9
  have HX := Lib.hid hx; have LX := Lib.hid ln; have HL := Lib.hid hL; clear hx ln hL
  go_enter Tryd.func15, Tryd.ntmps15
  go_wp2_with fail
  refine (form_any c h x A cA n ls _ (HX.out.below ((Below.refl _ w).alloc (Nat.le_refl _) _)) LX.out hn).mono ?_
  rintro e w1 ⟨rfl, hb⟩
  have HB := Lib.hid (((Below.refl w.heap.size w).alloc (Nat.le_refl _) _).trans (hb.mono (by simp)))
  obtain ⟨c0, c1, c2, c3⟩ := ((NB.new w c h x (.slice A n cA))).below hb |>.cells
  have HN := Lib.hid (((NB.new w c h x (.slice A n cA))).below hb)
  clear hb
  cases hf : formB ⟨c, h, x, ls⟩
  · have HP : Hid (printL ⟨c, h, x, ls⟩ = []) := by show _ = _; unfold printL; rw [hf]; rfl
    clear hf
    go_wp2_with fail
    go_ret
    exact ⟨by rw [HP.out]; rfl, HB.out⟩
  · have HF := Lib.hid hf
    have HP : Hid (printL ⟨c, h, x, ls⟩ = layL 10 (linesN ⟨c, h, x, ls⟩)) := by show _ = _; unfold printL; rw [hf]; rfl
    clear hf
    go_wp2_with fail
    refine (in_write c h x ls w1.heap.size _ (HL.out.1.below (HB.out.alloc HB.out.size _)) (ib_box w1 53 [c, h, x])).mono ?_
    rintro e w2 ⟨rfl, hb2⟩
    have HB2 := Lib.hid ((HB.out.alloc HB.out.size _).trans (hb2.mono (by simp; have := HB.out.size; omega)))
    obtain ⟨e0, e1, e2, e3⟩ := ((HN.out.alloc (.cells #[.int .i64 c, .int .i64 h, .int .i64 x] 53)).below hb2).cells
    have hs2 := HB2.out.size
    have hlt2 := ((HN.out.alloc (.cells #[.int .i64 c, .int .i64 h, .int .i64 x] 53)).below hb2).lt
    obtain ⟨t, HTt⟩ : ∃ t, Hid (t = ba (inL ⟨c, h, x, ls⟩)) := ⟨_, rfl⟩
    rw [← HTt.out]
    clear hb2 c0 c1 c2 c3 HN
    go_wp2_with fail
    clear e0 e1 e2 e3
    go_loopw [4, 19] (fun v i wr => ∃ k : Nat, k ≤ n ∧ i = .int .i64 k ∧ Hid (wr.ownsRow w.heap.size 9 1 v (k + 1) (cellsOf (inL ⟨c, h, x, ls⟩ :: (ls.take k).map lyL))) ∧ Hid (Below w.heap.size w wr)) (fun _ i _ => n - (intOf i).toNat)
    case atStart =>
      refine ⟨0, Nat.zero_le _, rfl, ⟨rfl, .inr ⟨w2.heap.size, 1, #[.string t], rfl, by omega, ?_, Nat.le_refl _, by decide, rfl, ?_⟩⟩, HB2.out.alloc (by omega) _⟩
      · show (w2.heap.push _)[w2.heap.size]? = _
        simp
      · simp [cellsOf, HTt.out]
    case round =>
      obtain ⟨k, hk, rfl, HW, HC⟩ := hrel
      by_cases hlt : k < n
      · have hkl : k < ls.length := by rw [← LX.out]; exact hlt
        obtain ⟨b1, o1, rfl, l1, q⟩ := HX.out (by omega)
        obtain ⟨l, hle⟩ : ∃ l, l = ls.getD k Ly.z := ⟨_, rfl⟩
        have hq := (q k hkl).below HC.out l1
        rw [← hle] at hq
        have HE : Hid (ls[k]? = some l) := by show _ = _; rw [hle]; exact get_ly hkl
        obtain ⟨p0, p1, p2, p3⟩ := hq
        have hly : lyB l = true := List.all_eq_true.1 (form_parts HF.out).2.2 l (List.mem_of_getElem? HE.out)
        have hkb := (lyB_parts hly).1
        have HTr : Hid (Tab wr) := HL.out.1.below HC.out
        obtain ⟨_, k1, k2, k3, k4⟩ := (HL.out.2.below HC.out).cells
        have hsr := HC.out.size
        have hz9 : 0 < wr.heap.size := by omega
        obtain ⟨lk, lo, ls', lt⟩ := l
        obtain ⟨u, Hu⟩ : ∃ u : Ly, Hid (u = ⟨lk, lo, ls', lt⟩) := ⟨_, rfl⟩
        clear q hle hly
        rcases kind_cases hkb with h | h | h | h
        all_goals
          simp only at h
          subst h
          go_wp2_with fail
          refine (ly_write ⟨_, lo, ls', lt⟩ _ (wr.heap.size + 1) _ (HTr.out.below (((Below.refl _ wr).alloc (Nat.le_refl _) _).alloc (by simp) _)) (ib_box4 wr _ 57 _ lo ls' lt) ?_).mono ?_
          · rfl
          rintro e w5 ⟨rfl, hb5⟩
          have HC5 := Lib.hid (((HC.out.alloc HC.out.size _).alloc (by simp; omega) _).trans (hb5.mono (by simp; omega)))
          have HO5 := Lib.hid (own_below ((HW.out.alloc _).alloc _) hb5)
          obtain ⟨t5, HT5⟩ : ∃ t5, Hid (t5 = ba (lyL u)) := ⟨_, rfl⟩
          rw [← Hu.out, ← HT5.out]
          have hs5 := HC5.out.size
          clear hb5 p0 p1 p2 p3 k1 k2 k3 k4 HW HC HTr
          go_wp2_with (at_builtin; refine wpList_append_own _ rfl _ _ 35 rfl w.heap.size 9 i0 (.string ⟨#[]⟩) 1 16 Tryd.underlying35 hi hz0 hz1 hz2 rfl (by decide) _ _ _ rfl (HO5.out.alloc _) ⟨w5.heap.size, 0, none⟩ 1 1 [.string t5] rfl rfl (by intro j u hj; match j, hj with | 0, hj => (simp at hj; subst hj; simp [Addr.add])) (by intro u hu; simp at hu; subst hu; rfl) (by unfold maxLen; omega) (by omega) (by simp; omega) ?_)
          intro v' w4 hown2 hgrow _
          have HO4 : Hid (w4.ownsRow w.heap.size 9 1 v' (k + 1 + 1) (cellsOf (inL ⟨c, h, x, ls⟩ :: (ls.take (k + 1)).map lyL))) := by
            show w4.ownsRow _ _ _ _ _ _
            rw [take_get HE.out, ← Hu.out, List.map_append, ← List.cons_append, cellsOf_append]
            rw [show cellsOf ([u].map lyL) = [.string t5] by rw [HT5.out]; rfl]
            first | exact hown2 | (rw [List.map_take]; exact hown2)
          have HB4 : Hid (Below w.heap.size w w4) := (HC5.out.alloc (by omega) _).grown hgrow (by simp; omega) (fun q hqq => (HO5.out.lt _ hqq).1)
          clear hown2 hgrow HO5 HC5
          go_wp2_with fail
          go_roundw
          case rel => exact ⟨k + 1, by omega, by go_num, HO4, HB4⟩
          case measure => simp [intOf]; omega
      · obtain rfl : k = n := by omega
        have hO := HW.out
        have hk1 : ls.take k = ls := by rw [LX.out]; exact List.take_length
        rw [hk1] at hO
        obtain ⟨A2, cc, rfl, hn2, hR2⟩ := own_row hO
        have HR2 := Lib.hid hR2
        have HN2 := Lib.hid hn2
        have HK : Hid (bulk (linesN ⟨c, h, x, ls⟩) ≤ 100000) := by
          have h1 := bulk_net ⟨c, h, x, ls⟩
          have h2 : ls.length ≤ 1000 := by rw [← LX.out]; exact hn
          show _ ≤ _
          simp only at h1
          omega
        clear hO hk1 hR2 hn2 HW
        go_wp2_with fail
        refine (text_any A2 cc (k + 1) (linesN ⟨c, h, x, ls⟩) wr HR2.out HN2.out HK.out).mono ?_
        rintro e w5 ⟨rfl, hb5⟩
        have HB5 := Lib.hid (HC.out.trans (hb5.mono HC.out.size))
        clear hb5
        go_wp2_with fail
        go_ret
        exact ⟨by rw [HP.out]; rfl, HB5.out⟩

end Go.Proofs.YtmlflmlgjjjmfaaDoor
