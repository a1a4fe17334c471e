/-
  What the closures of package terms that are told places do; what ofWindows answers.
-/
import Derived.Test.YtnfmpladdfgadaaTWin
import Derived.Test.YtnfmpladdfgadaaRefH
namespace Go.Proofs.Ytnfmpladdfgadaa
open Go.RowKit

def icells (x : Int) : List Value := [.int .i64 x]
theorem icells_len (x : Int) : (icells x).length = 1 := rfl
theorem icells_one (x : Int) : ∀ u ∈ icells x, u.oneCell' = true := fun u hu => by
  simp only [icells, List.mem_cons, List.not_mem_nil, or_false] at hu
  subst hu; rfl
def tcells (t : Tm) : List Value := [.int .i64 t.x, .int .i64 t.w]
theorem tcells_len (t : Tm) : (tcells t).length = 2 := rfl
theorem tcells_one (t : Tm) : ∀ u ∈ tcells t, u.oneCell' = true := fun u hu => by
  simp only [tcells, List.mem_cons, List.not_mem_nil, or_false] at hu
  rcases hu with rfl | rfl <;> rfl
theorem Try.info3 : (Try.prog.info? 3).map (fun i => (i.zero, i.size, i.bytes)) = some (some (.int .i64 0), 1, 8) := by kernel_rfl
theorem Try.info64 : (Try.prog.info? 64).map (fun i => (i.zero, i.size, i.bytes)) = some (some (.agg #[.int .i64 0, .int .i64 0]), 2, 16) := by kernel_rfl
theorem own_ne_type {w : World} {B n e s b T : Nat} {v : Value} {xs : List Value} {cs : Array Value} {fr : Nat × Nat} (h : w.ownsRow B e s v n xs) (hb : w.heap[b]? = some (.cells cs T fr)) (hT : T ≠ e) : some b ≠ v.ownBlock := fun he => by
  rcases h.2 with ⟨hv, _⟩ | ⟨g, cap, cur, hv, hg, hh, _⟩
  · rw [hv] at he; cases he
  · rw [hv] at he
    have : b = g := Option.some.inj he
    subst this
    rw [hb] at hh
    injection hh with hh
    injection hh with z1 z2 z3
    exact hT z2
theorem new_cells {w : World} {cs : List Value} {T : Nat} : ∀ j u, cs[j]? = some u → (w.alloc (.cells cs.toArray T)).cell? ((⟨w.heap.size, 0, none⟩ : Addr).add j) = some u := fun j u hu => by
  rw [plain_add, Nat.zero_add, Lib.cell_of_heap (heap_alloc_new w _)]
  simpa using hu

/-- How things stand when Parts has been told some places. -/
def PJ (w0 : World) (pb : Nat) (xs : List Int) (w : World) : Prop :=
  (∃ v, CB w pb 43 v ∧ w.ownsRow (pb + 1) 3 1 v xs.length (xs.flatMap icells)) ∧ Below w0.heap.size w0 w
theorem PJ.below {w0 : World} {pb : Nat} {xs : List Int} {w w' : World} (h : PJ w0 pb xs w) (hb : Below w.heap.size w w') : PJ w0 pb xs w' := by
  obtain ⟨⟨v, h1, h2⟩, h3⟩ := h
  exact ⟨⟨v, h1.below hb, own_belowE h2 hb⟩, chain h3 hb⟩

set_option maxHeartbeats 2000000 in
set_option maxRecDepth 100000 in
theorem parts1_any (w0 : World) (pb : Nat) (hp : w0.heap.size ≤ pb) (xs : List Int) (x : Int) (w : World) (hl : xs.length < 2000) (hJ : PJ w0 pb xs w) :
    Calls Try.prog 69 #[.int .i64 x, .pointer (some ⟨pb, 0, none⟩)] w fun e w' => e = .returned (.tuple #[]) ∧ PJ w0 pb (xs ++ [x]) w' ∧ KeepX w w' := by
  obtain ⟨i0, hi, hz0, hz1, hz2⟩ := info_parts Try.info3
  obtain ⟨⟨v, hV, hO⟩, hB⟩ := hJ
  obtain ⟨A, c, rfl, hd1, hd2⟩ := own_rg icells_len (by decide) hO
  clear hd1 hd2
  have cv := hV.cell
  have fv := hV.frozen
  have lv := hV.lt
  have V := Lib.hid hV; have O := Lib.hid hO; have B := Lib.hid hB
  clear hV hO hB
  go_enter Try.func69, Try.ntmps69
  go_wp2_with (at_builtin; refine wpList_append_own _ rfl _ _ 43 rfl (pb + 1) 3 i0 (.int .i64 0) 1 8 Try.underlying43 hi hz0 hz1 hz2 rfl (by decide) _ xs.length _ rfl (O.out.alloc _) ⟨w.heap.size, 0, none⟩ 1 1 (icells x) rfl rfl ?c1 (icells_one x) ?c3 ?c4 ?c5 ?_)
  case c1 => first | exact fun _ _ h => h | exact new_cells
  case c3 => unfold maxLen; omega
  case c4 => omega
  case c5 => first | omega | (simp; omega)
  intro v' w4 hown2 hgrow hcap
  clear hcap
  have O4 : w4.ownsRow (pb + 1) 3 1 v' (xs.length + 1) ((xs ++ [x]).flatMap icells) := by
    rw [List.flatMap_append]
    simpa using hown2
  obtain ⟨A', c', rfl, hd1, hd2⟩ := own_rg icells_len (by decide) O4
  clear hd1 hd2
  have hV4 : CB w4 pb 43 (.slice A xs.length c) := (hgrow.block _ (by simp; omega) (own_ne_low O.out (by omega))).trans ((Lib.alloc_old _ _ _ lv).trans V.out)
  have hB4 : Below w0.heap.size w0 w4 := (B.out.alloc B.out.size _).grown hgrow (by simp; have := B.out.size; omega) (fun q hqq => by have := (O.out.lt _ hqq).1; omega)
  have KX : KeepX w w4 := fun b cs q => by
    have lb := (Array.getElem?_eq_some_iff.1 q).1
    exact (hgrow.block b (by simp; omega) (own_ne_type O.out q (by decide))).trans ((Lib.alloc_old _ _ _ lb).trans q)
  have V4 := Lib.hid hV4; have B4 := Lib.hid hB4; have OO := Lib.hid O4; have KK := Lib.hid KX
  have cv4 := hV4.cell
  have fv4 := hV4.frozen
  have NB4 : Hid (∀ b cs, w.heap[b]? = some (Obj.cells cs 87 (0, 0)) → b ≠ pb) := fun b cs q e => by
    subst e
    have := V.out
    unfold CB at this
    rw [this] at q
    injection q with q
    injection q with _ q _
    exact absurd q (by decide)
  clear hown2 hgrow O4 hV4 hB4 KX cv fv
  go_wp2_with fail
  go_end0
  refine ⟨rfl, ⟨⟨_, V4.out.set _, by rw [List.length_append]; exact own_same OO.out fun g h1 h2 => Below.heap_setCell _ _ _ _ (by show g ≠ pb; omega)⟩, B4.out.setCell (p := ⟨pb, 0, none⟩) hp _⟩, fun b cs q => ?_⟩
  rw [Below.heap_setCell _ _ _ _ (NB4.out b cs q)]
  exact KK.out b cs q

/-- How things stand when ofWindows has been told some places. -/
def TJ (w0 : World) (pw pb : Nat) (a : Int) (xs : List Int) (w : World) : Prop :=
  (∃ v, CB w pb 40 v ∧ w.ownsRow (pb + 1) 64 2 v xs.length ((seqT a xs).flatMap tcells)) ∧ CB w pw 3 (.int .i64 (a + xs.length)) ∧ Below w0.heap.size w0 w
theorem TJ.below {w0 : World} {pw pb : Nat} {a : Int} {xs : List Int} {w w' : World} (h : TJ w0 pw pb a xs w) (hb : Below w.heap.size w w') : TJ w0 pw pb a xs w' := by
  obtain ⟨⟨v, h1, h2⟩, h4, h3⟩ := h
  exact ⟨⟨v, h1.below hb, own_belowE h2 hb⟩, h4.below hb, chain h3 hb⟩

set_option maxHeartbeats 2000000 in
set_option maxRecDepth 100000 in
theorem terms1_any (w0 : World) (pw pb : Nat) (hp : w0.heap.size ≤ pw) (hpp : pw < pb) (a : Int) (a0 : 0 ≤ a) (a1 : a ≤ 100000) (xs : List Int) (x : Int) (w : World) (hl : xs.length < 2000) (hJ : TJ w0 pw pb a xs w) :
    Calls Try.prog 92 #[.int .i64 x, .pointer (some ⟨pb, 0, none⟩), .pointer (some ⟨pw, 0, none⟩)] w fun e w' => e = .returned (.tuple #[]) ∧ TJ w0 pw pb a (xs ++ [x]) w' ∧ KeepX w w' := by
  obtain ⟨i0, hi, hz0, hz1, hz2⟩ := info_parts Try.info64
  obtain ⟨⟨v, hV, hO⟩, hC, hB⟩ := hJ
  obtain ⟨A, c, rfl, hd1, hd2⟩ := own_rg tcells_len (by decide) hO
  clear hd1 hd2
  obtain ⟨y, hy⟩ : ∃ y, y = a + (xs.length : Int) := ⟨_, rfl⟩
  rw [← hy] at hC
  have y0 : 0 ≤ y := by omega
  have y1 : y ≤ 200000 := by omega
  have HY := Lib.hid hy
  have cv := hV.cell
  have fv := hV.frozen
  have lv := hV.lt
  have cc := hC.cell
  have lc := hC.lt
  have V := Lib.hid hV; have O := Lib.hid hO; have B := Lib.hid hB; have C := Lib.hid hC
  clear hV hO hB hC hy
  go_enter Try.func92, Try.ntmps92
  go_wp2_with (at_builtin; refine wpList_append_own _ rfl _ _ 40 rfl (pb + 1) 64 i0 (.agg #[.int .i64 0, .int .i64 0]) 2 16 Try.underlying40 hi hz0 hz1 hz2 rfl (by decide) _ xs.length _ rfl (O.out.alloc _) ⟨w.heap.size, 0, none⟩ 1 1 (tcells ⟨x, y⟩) rfl rfl ?c1 (tcells_one _) ?c3 ?c4 ?c5 ?_)
  case c1 => first | exact fun _ _ h => h | exact new_cells
  case c3 => unfold maxLen; omega
  case c4 => omega
  case c5 => first | omega | (simp; omega)
  intro v' w4 hown2 hgrow hcap
  clear hcap
  have O4 : w4.ownsRow (pb + 1) 64 2 v' (xs.length + 1) ((seqT a (xs ++ [x])).flatMap tcells) := by
    rw [seq_snoc, ← HY.out, List.flatMap_append]
    simpa using hown2
  obtain ⟨A', c', rfl, hd1, hd2⟩ := own_rg tcells_len (by decide) O4
  clear hd1 hd2
  have hV4 : CB w4 pb 40 (.slice A xs.length c) := (hgrow.block _ (by simp; omega) (own_ne_low O.out (by omega))).trans ((Lib.alloc_old _ _ _ lv).trans V.out)
  have hC4 : CB w4 pw 3 (.int .i64 y) := (hgrow.block _ (by simp; omega) (own_ne_low O.out (by omega))).trans ((Lib.alloc_old _ _ _ lc).trans C.out)
  have hB4 : Below w0.heap.size w0 w4 := (B.out.alloc B.out.size _).grown hgrow (by simp; have := B.out.size; omega) (fun q hqq => by have := (O.out.lt _ hqq).1; omega)
  have KX : KeepX w w4 := fun b cs q => by
    have lb := (Array.getElem?_eq_some_iff.1 q).1
    exact (hgrow.block b (by simp; omega) (own_ne_type O.out q (by decide))).trans ((Lib.alloc_old _ _ _ lb).trans q)
  have V4 := Lib.hid hV4; have B4 := Lib.hid hB4; have OO := Lib.hid O4; have KK := Lib.hid KX; have C4 := Lib.hid hC4
  have cv4 := hV4.cell
  have fv4 := hV4.frozen
  have cc4 := hC4.cell
  have fc4 := hC4.frozen
  have ne1 : ¬ pw = pb := by omega
  have ne2 : ¬ pb = pw := by omega
  have NB4 : Hid (∀ b cs, w.heap[b]? = some (Obj.cells cs 87 (0, 0)) → b ≠ pb ∧ b ≠ pw) := fun b cs q => by
    constructor
    · intro e
      subst e
      have := V.out
      unfold CB at this
      rw [this] at q
      injection q with q
      injection q with _ q _
      exact absurd q (by decide)
    · intro e
      subst e
      have := C.out
      unfold CB at this
      rw [this] at q
      injection q with q
      injection q with _ q _
      exact absurd q (by decide)
  clear hown2 hgrow O4 hV4 hB4 KX cv fv hC4 cc
  go_wp2_with fail
  go_end0
  refine ⟨rfl, ⟨⟨_, (V4.out.set _).other ⟨pw, 0, none⟩ _ (by show pb ≠ pw; omega), by rw [List.length_append]; exact own_same OO.out fun g h1 h2 => by rw [Below.heap_setCell _ _ _ _ (by show g ≠ pw; omega), Below.heap_setCell _ _ _ _ (by show g ≠ pb; omega)]⟩, ?_, (B4.out.setCell (p := ⟨pb, 0, none⟩) (by show w0.heap.size ≤ pb; omega) _).setCell (p := ⟨pw, 0, none⟩) hp _⟩, fun b cs q => ?_⟩
  · have := (C4.out.other ⟨pb, 0, none⟩ (.slice A' (xs.length + 1) c') (by show pw ≠ pb; omega)).set (.int .i64 (y + 1))
    rw [List.length_append, show a + ((xs.length + [x].length : Nat) : Int) = y + 1 by rw [HY.out]; simp; omega]
    exact this
  · rw [Below.heap_setCell _ _ _ _ (NB4.out b cs q).2, Below.heap_setCell _ _ _ _ (NB4.out b cs q).1]
    exact KK.out b cs q

/-- Terms, or places, that are handed out. -/
def RowTo {α : Type} (f : α → List Value) (xs : List α) (w : World) (e : Ending) (w' : World) : Prop :=
  ∃ (A : Option Addr) (k n : Nat), e = .returned (.slice A n k) ∧ n = xs.length ∧ Rg f w' A xs ∧ Below w.heap.size w w' ∧ n ≤ k ∧ k ≤ maxLen

/-- Terms, or places, that are handed out: a row of one's own. -/
def RowNew {α : Type} (f : α → List Value) (xs : List α) (w : World) (e : Ending) (w' : World) : Prop :=
  ∃ (A : Option Addr) (k n : Nat), e = .returned (.slice A n k) ∧ n = xs.length ∧ Rg f w' A xs ∧ Below w.heap.size w w' ∧ n ≤ k ∧ k ≤ maxLen ∧ ∀ a, A = some a → w.heap.size ≤ a.block
theorem RowNew.row {α : Type} {f : α → List Value} {xs : List α} {w w' : World} {e : Ending} (h : RowNew f xs w e w') : RowTo f xs w e w' := by
  obtain ⟨A, k, n, h1, h2, h3, h4, h5, h6, _⟩ := h
  exact ⟨A, k, n, h1, h2, h3, h4, h5, h6⟩

set_option maxHeartbeats 4000000 in
set_option maxRecDepth 100000 in
theorem ofWindows_new (lk lo lt : Int) (o : Int) (s : Sh) (m cx cy cn : Nat) (first : Int) (w : World) (hm : m ≤ 12) (hcx : cx ≤ 150) (hcy : cy ≤ 150) (hcn : s.c = (cn : Int)) (hc8 : cn ≤ 8) (o0 : 0 ≤ o) (o1 : o ≤ 8) (f0 : 0 ≤ first) (f1 : first ≤ 512) :
    Calls Try.prog 65 #[.agg #[.int .i64 lk, .int .i64 lo, .int .i64 (m : Int), .int .i64 lt, .int .i64 s.c, .int .i64 s.h, .int .i64 s.x, .int .i64 o, .complex .f64 (fl cx) (fl cy)], .int .i64 first] w (RowNew tcells (seqT (first + o * s.c * (m : Int) * (m : Int)) (chanL s cy cx m cn)) w) := by
  have hmf : ∀ (fn : Fn) (first cap : Array Value) (w : World), (Instr.makeFunc fn first cap).run Try.prog w = .ok (.func fn first cap) w := fun _ _ _ _ => rfl
  have c0 : 0 ≤ s.c := by omega
  have c8 : s.c ≤ 8 := by omega
  have HCN := Lib.hid hcn
  clear hcn
  obtain ⟨p1, p2, p3, p4, p5, p6⟩ := conv_small o0 o1 c0 c8 (show (0 : Int) ≤ (m : Int) by omega) (show (m : Int) ≤ 12 by omega)
  obtain ⟨a, ha⟩ : ∃ a, a = first + o * s.c * (m : Int) * (m : Int) := ⟨_, rfl⟩
  have a0 : 0 ≤ a := by omega
  have a1 : a ≤ 100000 := by omega
  obtain ⟨W, hW⟩ : ∃ W, W = ((w.alloc (.cells #[.int .i64 lk, .int .i64 lo, .int .i64 (m : Int), .int .i64 lt, .int .i64 s.c, .int .i64 s.h, .int .i64 s.x, .int .i64 o, .complex .f64 (fl cx) (fl cy)] 87)).alloc (.cells #[.int .i64 (first + o * s.c * (m : Int) * (m : Int))] 3)).alloc (.cells #[.slice none 0 0] 40) := ⟨_, rfl⟩
  have J0 : Hid (TJ w (w.heap.size + 1) (w.heap.size + 1 + 1) a [] W) := by
    rw [hW, ← ha]
    refine ⟨⟨.slice none 0 0, ?_, ⟨rfl, .inl ⟨rfl, rfl⟩⟩⟩, ?_, by repeat first | exact Below.refl _ _ | refine chain_alloc ?_ _⟩
    · have := heap_alloc_new (((w.alloc (.cells #[.int .i64 lk, .int .i64 lo, .int .i64 (m : Int), .int .i64 lt, .int .i64 s.c, .int .i64 s.h, .int .i64 s.x, .int .i64 o, .complex .f64 (fl cx) (fl cy)] 87)).alloc (.cells #[.int .i64 a] 3))) (.cells #[.slice none 0 0] 40)
      rw [show ((w.alloc _).alloc _).heap.size = w.heap.size + 1 + 1 by simp] at this
      exact this
    · have := heap_alloc_new (w.alloc (.cells #[.int .i64 lk, .int .i64 lo, .int .i64 (m : Int), .int .i64 lt, .int .i64 s.c, .int .i64 s.h, .int .i64 s.x, .int .i64 o, .complex .f64 (fl cx) (fl cy)] 87)) (.cells #[.int .i64 (a + ([] : List Int).length)] 3)
      rw [show (w.alloc _).heap.size = w.heap.size + 1 by simp] at this
      exact (Lib.alloc_old _ _ _ (by simp)).trans (by simpa using this)
  have X0 : Hid (XB W w.heap.size lk lo lt o s m cx cy) := by
    rw [hW]
    exact (Lib.alloc_old _ _ _ (by simp; omega)).trans ((Lib.alloc_old _ _ _ (by simp)).trans (XB.new w lk lo lt o s m cx cy))
  have HA := Lib.hid ha
  clear ha
  go_enter Try.func65, Try.ntmps65
  go_wp2_with fail
  rw [← hW]
  clear hW
  go_loopg [7, 27] cn (fun g _ s27 wx => ∃ i : Nat, i ≤ cn ∧ Hid (g = cn - i) ∧ s27 = .int .i64 (i : Int) ∧ Hid (TJ w (w.heap.size + 1) (w.heap.size + 1 + 1) a (chanL s cy cx m i) wx) ∧ Hid (KeepX W wx))
  case atStart => exact ⟨0, by omega, by show _ = _; omega, rfl, by show TJ _ _ _ _ _ _; simpa [chanL] using J0.out, KeepX.refl _⟩
  case round =>
    obtain ⟨i, hi, HG, rfl, JR, KR⟩ := hrel
    have XR := Lib.hid (X0.out.keep KR.out)
    obtain ⟨x0, x1, x2, x3, x4, x5, x6, x7, x8⟩ := XR.out.cells
    by_cases im : i < cn
    · have ii : (i : Int) < s.c := by rw [HCN.out]; omega
      go_wp2_with fail
      refine (window_any 92 #[.pointer (some ⟨w.heap.size + 1 + 1, 0, none⟩), .pointer (some ⟨w.heap.size + 1, 0, none⟩)] (TJ w (w.heap.size + 1) (w.heap.size + 1 + 1) a) (by intro args w; go_simp) (fun xs x w' hl hj => terms1_any w _ _ (by omega) (by omega) a a0 a1 xs x w' hl hj) (fun xs w1 w2 h1 h2 => h1.below h2) lk lo lt o s m cx cy (i : Int) _ _ JR.out hm hcx hcy ?hlen).mono ?_
      case hlen =>
        rw [chan_len]
        have : i * (m * m) ≤ 7 * (12 * 12) := Nat.mul_le_mul (by omega) (Nat.mul_le_mul hm hm)
        omega
      rintro e w2 ⟨rfl, hj, hk⟩
      rw [← chan_next] at hj
      have J2 := Lib.hid hj; have K2 := Lib.hid (KR.out.trans hk)
      clear hj hk
      go_wp2_with fail
      go_roundg (cn - (i + 1))
      case measure => have := HG.out; omega
      case rel => exact ⟨i + 1, by omega, rfl, by go_num, J2, K2⟩
    · obtain rfl : i = cn := by omega
      have ii : ¬ (i : Int) < s.c := by rw [HCN.out]; omega
      obtain ⟨⟨v, hV, hO⟩, _, hB⟩ := JR.out
      obtain ⟨A, c, hv, hd1, hd2, hd3, hd4⟩ := own_cap tcells_len (by decide) hO
      subst hv
      have NEW : Hid (∀ a, A = some a → w.heap.size ≤ a.block) := fun a ha => by have := own_new hO a ha; omega
      have D1 := Lib.hid hd1; have D2 := Lib.hid hd2; have D3 := Lib.hid hd3; have D4 := Lib.hid hd4; have B := Lib.hid hB
      have cv := hV.cell
      clear hV hO hB hd1 hd2 hd3 hd4
      go_wp2_with fail
      go_ret
      exact ⟨A, c, _, rfl, by rw [← HA.out]; exact D1.out, by rw [← HA.out]; exact D2.out, B.out, D3.out, D4.out, NEW.out⟩
theorem ofWindows_any (lk lo lt : Int) (o : Int) (s : Sh) (m cx cy cn : Nat) (first : Int) (w : World) (hm : m ≤ 12) (hcx : cx ≤ 150) (hcy : cy ≤ 150) (hcn : s.c = (cn : Int)) (hc8 : cn ≤ 8) (o0 : 0 ≤ o) (o1 : o ≤ 8) (f0 : 0 ≤ first) (f1 : first ≤ 512) :
    Calls Try.prog 65 #[.agg #[.int .i64 lk, .int .i64 lo, .int .i64 (m : Int), .int .i64 lt, .int .i64 s.c, .int .i64 s.h, .int .i64 s.x, .int .i64 o, .complex .f64 (fl cx) (fl cy)], .int .i64 first] w (RowTo tcells (seqT (first + o * s.c * (m : Int) * (m : Int)) (chanL s cy cx m cn)) w) := by
  exact (ofWindows_new lk lo lt o s m cx cy cn first w hm hcx hcy hcn hc8 o0 o1 f0 f1).mono fun _ _ h => h.row

end Go.Proofs.Ytnfmpladdfgadaa
