/-
  Bytes in memory: rows of them, rows of such rows, and texts.
-/
import Derived.Test.YtjokaaekliapmaaDoorBNum
import Derived.Maps.AppendAt
import Derived.Lib.Strings
namespace Go.Proofs.YtjokaaekliapmaaDoor
open Go.RowKit

/-- The number that a byte's cell bears. -/
def bz (b : UInt8) : Int := (b.toNat : Int)
theorem bz_lo (b : UInt8) : 0 ≤ bz b := by unfold bz; omega
theorem bz_hi (b : UInt8) : bz b < 256 := by unfold bz; have := b.toNat_lt; omega
theorem bz_inj {a b : UInt8} (h : bz a = bz b) : a = b := by
  unfold bz at h
  exact UInt8.toNat_inj.1 (by omega)
theorem bz_of {n : Int} (h0 : 0 ≤ n) (h1 : n < 256) : ∃ b : UInt8, n = bz b :=
  ⟨UInt8.ofNat n.toNat, by unfold bz; rw [UInt8.toNat_ofNat']; omega⟩
theorem bz_wrap (n : Nat) : IntKind.u8.wrap (n : Int) = bz (UInt8.ofNat n) := by
  unfold bz; rw [UInt8.toNat_ofNat']
  show (n : Int) % 2 ^ 8 = _
  omega
def bcells (b : UInt8) : List Value := [.int .u8 (bz b)]
theorem bcells_len (b : UInt8) : (bcells b).length = 1 := rfl
theorem bcells_one (x : UInt8) : ∀ u ∈ bcells x, u.oneCell' = true := fun u hu => by
  simp only [bcells, List.mem_cons, List.not_mem_nil, or_false] at hu
  subst hu; rfl
theorem b_cell {w : World} {b off : Nat} {us : List UInt8} (h : ∀ j u, (us.flatMap bcells)[j]? = some u → w.cell? ⟨b, off + j, none⟩ = some u) {k : Nat} {x : UInt8} (hx : us[k]? = some x) :
    w.cell? ⟨b, off + k, none⟩ = some (.int .u8 (bz x)) := by
  have := Rg.at bcells_len h hx 0 _ rfl
  rwa [Nat.mul_one] at this
/-- A text of bytes. -/
def tx (l : List UInt8) : ByteArray := ⟨l.toArray⟩
theorem tx_list (l : List UInt8) : (tx l).toList = l := by
  unfold tx; rw [Lib.toList_data]
theorem tx_same (a b : List UInt8) : ((tx a).toList == (tx b).toList) = (a == b) := by rw [tx_list, tx_list]
theorem tx_yes {a b : List UInt8} (h : a = b) : ((tx a).toList == (tx b).toList) = true := by rw [tx_same, h]; simp
theorem tx_no {a b : List UInt8} (h : a ≠ b) : ((tx a).toList == (tx b).toList) = false := by rw [tx_same]; simpa using h
theorem tx_size (l : List UInt8) : (tx l).size = l.length := by unfold tx; rfl
theorem Tryd.infoB : (Tryd.prog.info? 5).map (fun i => (i.zero, i.size, i.bytes)) = some (some (.int .u8 0), 1, 1) := by kernel_rfl
theorem text_of {w : World} {A : Option Addr} {n c : Nat} {l : List UInt8} (h : Rg bcells w A l) (hn : n = l.length) : (convert 22 9 (.slice A n c)).run Tryd.prog w = .ok (.string (tx l)) w := by
  rcases l with _ | ⟨x, l⟩
  · obtain rfl : n = 0 := hn
    rw [run_convert_bytes_string w 22 9 5 A 0 c Tryd.underlying22 Tryd.underlying5 Tryd.underlying9]
    rcases A with _ | A <;> simp [Conv.bytesToString, tx] <;> rfl
  · obtain ⟨b, off, rfl, _, hc⟩ := h (by simp)
    subst hn
    exact run_convert_bytes_back w 22 9 5 ⟨b, off, none⟩ c (x :: l) Tryd.underlying22 Tryd.underlying5 Tryd.underlying9 (fun j hj => by
      have := b_cell hc (List.getElem?_eq_getElem hj)
      rw [show (⟨b, off, none⟩ : Addr).add j = ⟨b, off + j, none⟩ by unfold Addr.add; split <;> simp_all]
      exact this)
/-- A slice, as it lies in a cell. -/
structure Hd where
  a : Option Addr
  n : Nat
  c : Nat
def hcells (h : Hd) : List Value := [.slice h.a h.n h.c]
theorem hcells_len (h : Hd) : (hcells h).length = 1 := rfl
theorem hcells_one (h : Hd) : ∀ u ∈ hcells h, u.oneCell' = true := fun u hu => by
  simp only [hcells, List.mem_cons, List.not_mem_nil, or_false] at hu
  subst hu; rfl
theorem h_cell {w : World} {b off : Nat} {hs : List Hd} (h : ∀ j u, (hs.flatMap hcells)[j]? = some u → w.cell? ⟨b, off + j, none⟩ = some u) {k : Nat} {x : Hd} (hx : hs[k]? = some x) :
    w.cell? ⟨b, off + k, none⟩ = some (.slice x.a x.n x.c) := by
  have := Rg.at hcells_len h hx 0 _ rfl
  rwa [Nat.mul_one] at this
/-- Bytes behind a slice's head. -/
def HB (w : World) (h : Hd) (l : List UInt8) : Prop := h.n = l.length ∧ h.n ≤ h.c ∧ Rg bcells w h.a l
theorem HB.below {w w' : World} {h : Hd} {l : List UInt8} (H : HB w h l) (hb : Below w.heap.size w w') : HB w' h l := ⟨H.1, H.2.1, H.2.2.below hb⟩
/-- All slices' bytes. -/
def HBs (w : World) (hs : List Hd) (bss : List (List UInt8)) : Prop := hs.length = bss.length ∧ ∀ (i : Nat) (h : Hd) (l : List UInt8), hs[i]? = some h → bss[i]? = some l → HB w h l
theorem HBs.nil (w : World) : HBs w [] [] := ⟨rfl, fun i h l e => by simp at e⟩
theorem HBs.below {w w' : World} {hs : List Hd} {bss : List (List UInt8)} (H : HBs w hs bss) (hb : Below w.heap.size w w') : HBs w' hs bss := ⟨H.1, fun i h l e1 e2 => (H.2 i h l e1 e2).below hb⟩
theorem HBs.app {w : World} {hs ks : List Hd} {xs ys : List (List UInt8)} (H : HBs w hs xs) (K : HBs w ks ys) : HBs w (hs ++ ks) (xs ++ ys) := by
  refine ⟨by rw [List.length_append, List.length_append, H.1, K.1], fun i h l e1 e2 => ?_⟩
  by_cases q : i < hs.length
  · rw [List.getElem?_append_left q] at e1
    rw [List.getElem?_append_left (by rw [← H.1]; exact q)] at e2
    exact H.2 i h l e1 e2
  · rw [List.getElem?_append_right (by omega)] at e1
    rw [List.getElem?_append_right (by rw [← H.1]; omega), ← H.1] at e2
    exact K.2 _ h l e1 e2
theorem HBs.one {w : World} {h : Hd} {l : List UInt8} (H : HB w h l) : HBs w [h] [l] := ⟨rfl, fun i k m e1 e2 => by
  match i with
  | 0 =>
    simp only [List.getElem?_cons_zero, Option.some.injEq] at e1 e2
    rw [← e1, ← e2]; exact H
  | i + 1 => simp at e1⟩
theorem HBs.snoc {w : World} {hs : List Hd} {bss : List (List UInt8)} {h : Hd} {l : List UInt8} (H : HBs w hs bss) (K : HB w h l) : HBs w (hs ++ [h]) (bss ++ [l]) := H.app (HBs.one K)
theorem HBs.take {w : World} {hs : List Hd} {bss : List (List UInt8)} (H : HBs w hs bss) (k : Nat) : HBs w (hs.take k) (bss.take k) := by
  refine ⟨by rw [List.length_take, List.length_take, H.1], fun i h l e1 e2 => ?_⟩
  rw [List.getElem?_take] at e1 e2
  split at e1
  · rename_i q
    rw [if_pos q] at e2
    exact H.2 i h l e1 e2
  · cases e1
theorem HBs.drop {w : World} {hs : List Hd} {bss : List (List UInt8)} (H : HBs w hs bss) (k : Nat) : HBs w (hs.drop k) (bss.drop k) := by
  refine ⟨by rw [List.length_drop, List.length_drop, H.1], fun i h l e1 e2 => ?_⟩
  rw [List.getElem?_drop] at e1 e2
  exact H.2 _ h l e1 e2
/-- A row of rows of bytes. -/
def BR (w : World) (A : Option Addr) (bss : List (List UInt8)) : Prop := ∃ hs : List Hd, Rg hcells w A hs ∧ HBs w hs bss
theorem BR.nil (w : World) (A : Option Addr) : BR w A [] := ⟨[], Rg.nil _ _ _, HBs.nil _⟩
theorem BR.below {w w' : World} {A : Option Addr} {bss : List (List UInt8)} (H : BR w A bss) (hb : Below w.heap.size w w') : BR w' A bss := by
  obtain ⟨hs, h1, h2⟩ := H
  exact ⟨hs, h1.below hb, h2.below hb⟩
theorem BR.get {w : World} {A : Option Addr} {bss : List (List UInt8)} (H : BR w A bss) {i : Nat} {l : List UInt8} (hi : bss[i]? = some l) :
    ∃ b off h, A = some ⟨b, off, none⟩ ∧ b < w.heap.size ∧ w.cell? ⟨b, off + i, none⟩ = some (.slice h.a h.n h.c) ∧ HB w h l := by
  obtain ⟨hs, h1, h2⟩ := H
  have hl : i < hs.length := by rw [h2.1]; exact (List.getElem?_eq_some_iff.1 hi).1
  obtain ⟨b, off, e, hlt, hc⟩ := h1 (by omega)
  exact ⟨b, off, hs[i], e, hlt, h_cell hc (List.getElem?_eq_getElem hl), h2.2 i _ l (List.getElem?_eq_getElem hl) hi⟩
/-- Rows of bytes that are handed out. -/
def BRTo (bss : List (List UInt8)) (w : World) (e : Ending) (w' : World) : Prop :=
  ∃ (A : Option Addr) (k n : Nat), e = .returned (.slice A n k) ∧ n = bss.length ∧ BR w' A bss ∧ Below w.heap.size w w' ∧ n ≤ k ∧ k ≤ maxLen
theorem own_br {w : World} {B e n : Nat} {v : Value} {hs : List Hd} {bss : List (List UInt8)} (h : w.ownsRow B e 1 v n (hs.flatMap hcells)) (H : HBs w hs bss) :
    ∃ A c, v = .slice A n c ∧ n = bss.length ∧ BR w A bss ∧ n ≤ c ∧ c ≤ maxLen := by
  obtain ⟨A, c, h1, h2, h3, h4, h5⟩ := own_cap hcells_len (by decide) h
  exact ⟨A, c, h1, h2.trans H.1, ⟨hs, h3, H⟩, h4, h5⟩
/-- Bytes grow by a byte. -/
theorem lit2 (w : World) (a b : UInt8) : (w.alloc (.cells #[.int .u8 (bz a), .int .u8 (bz b)] 5)).ownsRow w.heap.size 5 1 (.slice (some ⟨w.heap.size, 0, none⟩) 2 2) 2 ([a, b].flatMap bcells) :=
  World.ownsRow_lit w #[.int .u8 (bz a), .int .u8 (bz b)] 2 (Nat.le_refl _) (by decide) rfl

theorem Tryd.infoH : (Tryd.prog.info? 22).map (fun i => (i.zero, i.size, i.bytes)) = some (some (.slice none 0 0), 1, 24) := by kernel_rfl
/-- An append onto a row of one's own, with word of where the row lies behind it. -/
theorem wpList_append_at (w : World) {ops : Array Oper} {rest : List Oper} {o : Oper} {a : Act} {Q : Exit → Act → World → Prop} (hgd : o.guard = none) (s x : Operand) (t : TypeId)
    (ho : o.op = .call { callee := .builtin .append, args := #[s, x], argTypes := #[t, t] })
    (base : Nat) (e : TypeId) (i : TypeInfo) (z : Value) (size bytes : Nat) (ht : Tryd.prog.underlying t = some (.slice e)) (hi : Tryd.prog.info? e = some i) (hz : i.zero = some z)
    (hsize : i.size = size) (hby : i.bytes = bytes) (hzs : z.cells.size = size) (hsz : 0 < size)
    (v : Value) (n : Nat) (xs : List Value) (hs : a.eval s = v) (hown : w.ownsRow base e size v n xs)
    (ad : Addr) (m c : Nat) (news : List Value) (hx : a.eval x = .slice (some ad) m c) (hl : news.length = m * size) (hnews : ∀ j u, news[j]? = some u → w.cell? (ad.add j) = some u) (h1 : ∀ u ∈ news, u.oneCell' = true)
    (h63 : n + m ≤ maxLen) (hbytes : (n + m) * bytes ≤ 140737488355328) (hbase : base ≤ w.heap.size)
    (h : ∀ v' w', w'.ownsRow base e size v' (n + m) (xs ++ news) → w.grownBy w' v.ownBlock → (v'.ownBlock = v.ownBlock ∨ v'.ownBlock = some w.heap.size) → wpList Tryd.prog ops Q rest (a.put o.dst v') w') : wpList Tryd.prog ops Q (o :: rest) a w :=
  wpList_plain hgd fun _ hK => by
    obtain ⟨v', w', hr, h2, h3, _, h4⟩ := run_append_own_at (P := Tryd.prog) w base t o.type e i z size bytes ht hi hz hsize hby hzs hsz v n xs hown ad m c news hl hnews h1 h63 hbytes hbase
    unfold Oper.wp execOp
    simp only [ho, resolve, invoke, builtin, Sem.run_bind, Sem.run_pure, Result.andThen_ok, List.map_toArray, List.map_cons, List.map_nil, hs, hx, hr]
    exact hK _ _ (h v' w' h2 h3 h4)
/-- A row of rows of bytes that grows. -/
def OR (w : World) (B : Nat) (v : Value) (k : Nat) (bss : List (List UInt8)) : Prop :=
  ∃ hs : List Hd, w.ownsRow B 22 1 v k (hs.flatMap hcells) ∧ HBs w hs bss ∧ ∀ h ∈ hs, 0 < h.n → ∀ a, h.a = some a → v.ownBlock ≠ some a.block
theorem OR.nil (w : World) (B : Nat) : OR w B (.slice none 0 0) 0 [] := ⟨[], World.ownsRow_nil _ _ _ _, HBs.nil _, fun h hh => by simp at hh⟩
theorem OR.below {w w' : World} {B k : Nat} {v : Value} {bss : List (List UInt8)} (H : OR w B v k bss) (hb : Below w.heap.size w w') : OR w' B v k bss := by
  obtain ⟨hs, h1, h2, h3⟩ := H
  exact ⟨hs, own_belowE h1 hb, h2.below hb, h3⟩
theorem OR.own {w : World} {B k : Nat} {v : Value} {bss : List (List UInt8)} (H : OR w B v k bss) : ∃ xs, w.ownsRow B 22 1 v k xs := by
  obtain ⟨hs, h1, _⟩ := H
  exact ⟨_, h1⟩
theorem HB.block {w : World} {h : Hd} {l : List UInt8} (H : HB w h l) (h0 : 0 < h.n) : ∃ b o, h.a = some ⟨b, o, none⟩ ∧ b < w.heap.size ∧ ∀ j u, (l.flatMap bcells)[j]? = some u → w.cell? ⟨b, o + j, none⟩ = some u := H.2.2 (by rw [← H.1]; exact h0)
theorem HB.grown {w w' : World} {r : Option Nat} {h : Hd} {l : List UInt8} (H : HB w h l) (hg : w.grownBy w' r) (hn : 0 < h.n → ∀ a, h.a = some a → r ≠ some a.block) : HB w' h l := by
  refine ⟨H.1, H.2.1, fun h0 => ?_⟩
  have h1 : 0 < h.n := by rw [H.1]; exact h0
  obtain ⟨b, o, e, lt, hc⟩ := H.block h1
  exact ⟨b, o, e, Nat.lt_of_lt_of_le lt hg.size, fun j u hu => (World.cell?_of_block (a := ⟨b, o + j, none⟩) (hg.block b lt (fun q => hn h1 _ e q.symm))).trans (hc j u hu)⟩
/-- More slices, behind those that are there. -/
theorem OR.grow0 {w w4 : World} {B k m : Nat} {v v' : Value} {bss css : List (List UInt8)} {hs ks : List Hd} (h2 : HBs w hs bss) (h3 : ∀ h ∈ hs, 0 < h.n → ∀ a, h.a = some a → v.ownBlock ≠ some a.block)
    (K : HBs w ks css) (kn : ∀ h ∈ ks, 0 < h.n → ∀ a, h.a = some a → v.ownBlock ≠ some a.block)
    (ho : w4.ownsRow B 22 1 v' (k + m) (hs.flatMap hcells ++ ks.flatMap hcells)) (hg : w.grownBy w4 v.ownBlock) (hat : v'.ownBlock = v.ownBlock ∨ v'.ownBlock = some w.heap.size ∨ v'.ownBlock = some (w.heap.size + 1)) : OR w4 B v' (k + m) (bss ++ css) := by
  have H := h2.app K
  have N : ∀ h ∈ hs ++ ks, 0 < h.n → ∀ a, h.a = some a → v.ownBlock ≠ some a.block := fun h hh => by
    rcases List.mem_append.1 hh with q | q
    · exact h3 h q
    · exact kn h q
  refine ⟨hs ++ ks, by rw [List.flatMap_append]; exact ho, ⟨H.1, fun i h l e1 e2 => (H.2 i h l e1 e2).grown hg (N h (List.mem_of_getElem? e1))⟩, fun h hh h0 a ha => ?_⟩
  obtain ⟨i, hi, e1⟩ := List.mem_iff_getElem.1 hh
  have e2 : (bss ++ css)[i]? = some ((bss ++ css)[i]'(by rw [← H.1]; exact hi)) := List.getElem?_eq_getElem _
  obtain ⟨b, o, ea, lt, _⟩ := (H.2 i h _ (by rw [List.getElem?_eq_getElem hi, e1]) e2).block h0
  rw [ha] at ea
  have := Option.some.inj ea
  subst this
  rcases hat with q | q | q
  · rw [q]; exact N h hh h0 _ ha
  · rw [q]
    intro e
    injection e with e
    have e : w.heap.size = b := e
    omega
  · rw [q]
    intro e
    injection e with e
    have e : w.heap.size + 1 = b := e
    omega
theorem OR.grow {w w4 : World} {B k m : Nat} {v v' : Value} {bss css : List (List UInt8)} {hs ks : List Hd} {lit : Obj} (_h1 : w.ownsRow B 22 1 v k (hs.flatMap hcells)) (h2 : HBs w hs bss) (h3 : ∀ h ∈ hs, 0 < h.n → ∀ a, h.a = some a → v.ownBlock ≠ some a.block)
    (K : HBs w ks css) (kn : ∀ h ∈ ks, 0 < h.n → ∀ a, h.a = some a → v.ownBlock ≠ some a.block)
    (ho : w4.ownsRow B 22 1 v' (k + m) (hs.flatMap hcells ++ ks.flatMap hcells)) (hg : (w.alloc lit).grownBy w4 v.ownBlock) (hat : v'.ownBlock = v.ownBlock ∨ v'.ownBlock = some (w.heap.size + 1)) : OR w4 B v' (k + m) (bss ++ css) :=
  OR.grow0 h2 h3 K kn ho ((World.grownBy_alloc w lit _).trans hg) (hat.imp id Or.inr)
theorem OR.row {w : World} {B n : Nat} {v : Value} {bss : List (List UInt8)} (h : OR w B v n bss) : ∃ A c, v = .slice A n c ∧ n = bss.length ∧ BR w A bss ∧ n ≤ c ∧ c ≤ maxLen := by
  obtain ⟨hs, h1, h2, _⟩ := h
  exact own_br h1 h2

/-- A literal row of rows of bytes. -/
theorem br_lit {w : World} {T : Nat} {cs : Array Value} {hs : List Hd} {bss : List (List UInt8)} (H : HBs w hs bss) (e : cs.toList = hs.flatMap hcells) : BR (w.alloc (.cells cs T)) (some ⟨w.heap.size, 0, none⟩) bss :=
  ⟨hs, rg_block (heap_alloc_new w _) e, H.below ((Below.refl _ w).alloc (Nat.le_refl _) _)⟩
theorem HB.mk {w : World} {A : Option Addr} {n c : Nat} {l : List UInt8} (h1 : n = l.length) (h2 : n ≤ c) (h3 : Rg bcells w A l) : HB w ⟨A, n, c⟩ l := ⟨h1, h2, h3⟩
theorem HBs.two {w : World} {h k : Hd} {l m : List UInt8} (H : HB w h l) (K : HB w k m) : HBs w [h, k] [l, m] := (HBs.one H).app (HBs.one K)
theorem HBs.four {w : World} {h k i j : Hd} {l m n o : List UInt8} (H : HB w h l) (K : HB w k m) (I : HB w i n) (J : HB w j o) : HBs w [h, k, i, j] [l, m, n, o] := (HBs.two H K).app (HBs.two I J)

theorem OR.lit0 (w : World) : OR (w.alloc (.cells #[] 22)) w.heap.size (.slice (some ⟨w.heap.size, 0, none⟩) 0 0) 0 [] :=
  ⟨[], World.ownsRow_lit w #[] 0 (Nat.le_refl _) (by decide) rfl, HBs.nil _, fun h hh => by simp at hh⟩
theorem BR.take {w : World} {A : Option Addr} {bss : List (List UInt8)} (H : BR w A bss) (k : Nat) : BR w A (bss.take k) := by
  obtain ⟨hs, h1, h2⟩ := H
  refine ⟨hs.take k, fun h0 => ?_, h2.take k⟩
  rw [List.length_take] at h0
  obtain ⟨b, o, e, lt, hc⟩ := h1 (by omega)
  refine ⟨b, o, e, lt, fun j u hu => hc j u ?_⟩
  have hj := (List.getElem?_eq_some_iff.1 hu).1
  rw [flat_len hcells_len, Nat.mul_one] at hj
  have g := flat_get hcells_len _ j 0 _ (List.getElem?_eq_getElem hj) (by omega)
  rw [Nat.mul_one, Nat.add_zero, hu] at g
  have hl : j < hs.length := by rw [List.length_take] at hj; omega
  have g2 := flat_get hcells_len hs j 0 _ (List.getElem?_eq_getElem hl) (by omega)
  rw [Nat.mul_one, Nat.add_zero] at g2
  rw [g2, g]
  simp
/-- Bytes that are one's own. -/
def BOwn (bs : List UInt8) (w : World) (e : Ending) (w' : World) : Prop := ∃ v, e = .returned v ∧ w'.ownsRow w.heap.size 5 1 v bs.length (bs.flatMap bcells) ∧ Below w.heap.size w w'
theorem BOwn.new {bs : List UInt8} {w w' : World} {e : Ending} (h : BOwn bs w e w') : RowNew bcells bs w e w' := by
  obtain ⟨v, rfl, h1, h2⟩ := h
  obtain ⟨A, c, rfl, z1, z2, z3, z4⟩ := own_cap bcells_len (by decide) h1
  exact ⟨A, c, _, rfl, rfl, z2, h2, z3, z4, own_new h1⟩
theorem zero_cells (n : Nat) : (Builtin.zeroCells (Value.int .u8 0).cells n).toList = (List.replicate n (0 : UInt8)).flatMap bcells := by
  apply List.ext_getElem
  · simp [Builtin.zeroCells, Value.cells, bcells]
  · intro i h1 h2
    have hi : i < n := by simpa [Builtin.zeroCells, Value.cells] using h1
    have := flat_get bcells_len (List.replicate n (0 : UInt8)) i 0 0 (by simp [hi]) (by decide)
    rw [Nat.mul_one, Nat.add_zero, List.getElem?_eq_getElem h2] at this
    rw [Option.some.inj this]
    simp [Builtin.zeroCells, Value.cells, Nat.mod_one, bz]
set_option maxRecDepth 10000 in
/-- An append of noughts. -/
theorem b_zeros_run {w : World} {B n m : Nat} {v : Value} {xs : List UInt8} (h : w.ownsRow B 5 1 v n (xs.flatMap bcells)) (hn : 0 < n) (hm : 0 < m) (hs : n + m ≤ 100000) (hB : B ≤ w.heap.size) :
    ∃ v' w', (Builtin.append_ #[22, 3] 22 #[v, .int .i64 (m : Int)]).run Tryd.prog w = .ok v' w' ∧ w'.ownsRow B 5 1 v' (n + m) ((xs ++ List.replicate m 0).flatMap bcells) ∧ Below B w w' := by
  obtain ⟨i0, hi, hz0, hz1, hz2⟩ := info_parts Tryd.infoB
  have hw : IntKind.i64.wrap (m : Int) = m := by rw [IntKind.wrap_i64]; omega
  have hneg : ¬ ((m : Int) < 0) := by omega
  have hm0 : m ≠ 0 := by omega
  have h48i : ¬ (281474976710656 < (m : Int)) := by omega
  have hlen := h.1
  rcases h.2 with ⟨_, rfl⟩ | ⟨g, cap, cur, rfl, hbg, hg, hnc, hcm, hcs, htake⟩
  · omega
  · rw [Nat.mul_one] at hcs htake hlen
    by_cases hroom : n + m ≤ cap
    · have hst := run_storeCells_at Tryd.prog g n 5 (Builtin.zeroCells (Value.int .u8 0).cells m).toList 0 cur w hg (by simp [Builtin.zeroCells, Value.cells]; omega) (fun u hu => by
        rw [zero_cells] at hu
        obtain ⟨y, _, hy⟩ := List.mem_flatMap.1 hu
        exact bcells_one y u hy)
      simp only [Nat.add_zero] at hst
      have hzl : (Builtin.zeroCells (Value.int .u8 0).cells m).toList.length = m := by simp [Builtin.zeroCells, Value.cells]
      rw [hzl] at hst
      refine ⟨.slice (some ⟨g, 0, none⟩) (n + m) cap, w.setRow g (cur.toList.take n ++ (Builtin.zeroCells (Value.int .u8 0).cells m).toList ++ cur.toList.drop (n + m)).toArray, ?_, ?_, ?_⟩
      · simp [Builtin.append_, run_underlying Tryd.underlying22, run_underlying Tryd.underlying3, sizeOf, typeInfo, zeroValue, hi, hz0, hz1, hz2, asInt, asIntOf, hw, hneg, hm0, h48i, Builtin.lenOf, hroom, Addr.add_lit, hst]
      · refine ⟨by rw [flat_len bcells_len, List.length_append, List.length_replicate, Nat.mul_one, Nat.mul_one]; rw [flat_len bcells_len, Nat.mul_one] at hlen; omega, .inr ⟨g, cap, _, rfl, hbg, setRow_heap w g cur _ 5 _ hg, hroom, hcm, ?_, ?_⟩⟩
        · simp only [List.size_toArray, List.length_append, List.length_take, List.length_drop, Array.length_toList, hzl]; omega
        · rw [Nat.mul_one, htake, zero_cells, List.flatMap_append]
          have e : n + m = (xs.flatMap bcells ++ (List.replicate m (0 : UInt8)).flatMap bcells).length := by rw [List.length_append, hlen, flat_len bcells_len, List.length_replicate]; omega
          show List.take (n + m) (_ ++ _) = _
          rw [e]; exact List.take_left
      · exact ⟨rfl, rfl, rfl, by simp, fun k hk => setRow_other w g k _ (by omega)⟩
    · have holds : ∀ j u, (xs.flatMap bcells)[j]? = some u → w.cell? ((⟨g, 0, none⟩ : Addr).add j) = some u := h.cells (g := g) rfl
      have hfo := run_firstCells_some (P := Tryd.prog) w.drew 1 n ⟨g, 0, none⟩ n cap (xs.flatMap bcells) (by rw [hlen, Nat.mul_one]) (by simpa using holds)
      have h63' : ¬ (9223372036854775807 < ((n : Int) + (m : Int))) := by omega
      have hfit := growslice_fits (need := n + m) (old := cap) (bytes := 1) (by omega) (by omega)
      have h48' : ¬ (281474976710656 < Builtin.nextslicecap (n + m) cap) := by rw [Nat.mul_one] at hfit; omega
      have hge := grownCap_ge w (n + m) cap 5
      refine ⟨.slice (some ⟨w.heap.size, 0, none⟩) (n + m) (grownCap w (n + m) cap 5), w.drew.alloc (.cells ((xs.flatMap bcells).toArray ++ Builtin.zeroCells (Value.int .u8 0).cells m ++ Builtin.zeroCells (Value.int .u8 0).cells (grownCap w (n + m) cap 5 - (n + m))) 5), ?_, ?_, ?_⟩
      · simp [Builtin.append_, run_underlying Tryd.underlying22, run_underlying Tryd.underlying3, sizeOf, typeInfo, zeroValue, hi, hz0, hz1, hz2, asInt, asIntOf, hw, hneg, hm0, h48i, h63', h48', Builtin.lenOf, hroom, Question.forced, hfo, newRow, grownCap]
      · refine ⟨by rw [flat_len bcells_len, List.length_append, List.length_replicate, Nat.mul_one, Nat.mul_one]; rw [flat_len bcells_len, Nat.mul_one] at hlen; omega, .inr ⟨w.heap.size, _, _, rfl, hB, heap_alloc_new w.drew _, hge, grownCap_le_maxLen w (n + m) cap _ (by unfold maxLen; omega), ?_, ?_⟩⟩
        · simp only [Array.size_append, List.size_toArray, size_zeroCells, hlen, show (Value.int .u8 0).cells.size = 1 from rfl]; omega
        · rw [Nat.mul_one, Array.toList_append, Array.toList_append, zero_cells, List.flatMap_append]
          have e : n + m = (xs.flatMap bcells ++ (List.replicate m (0 : UInt8)).flatMap bcells).length := by rw [List.length_append, hlen, flat_len bcells_len, List.length_replicate]; omega
          rw [e]; exact List.take_left
      · exact ((Below.refl B w).drew).alloc hB _

theorem own_base {w : World} {B B' n e s : Nat} {v : Value} {xs : List Value} (h : w.ownsRow B' e s v n xs) (hb : B ≤ B') : w.ownsRow B e s v n xs := by
  refine ⟨h.1, ?_⟩
  rcases h.2 with h0 | ⟨g, cap, cur, hv, hg, rest⟩
  · exact .inl h0
  · exact .inr ⟨g, cap, cur, hv, Nat.le_trans hb hg, rest⟩
theorem b_nil_run {w : World} {B n c : Nat} {v : Value} {us : List Value} (h : w.ownsRow B 5 1 v n us) (ty : TypeId) :
    (Builtin.append_ #[22, 22] ty #[v, .slice none 0 c]).run Tryd.prog w = .ok v w := by
  obtain ⟨i0, hi, hz0, hz1, hz2⟩ := info_parts Tryd.infoB
  rcases h.2 with ⟨rfl, rfl⟩ | ⟨g, cap, cur, rfl, _, _, hnc, _⟩
  · simp [Builtin.append_, run_underlying Tryd.underlying22, sizeOf, typeInfo, hi, Builtin.lenOf, Builtin.firstCells]
  · simp [Builtin.append_, run_underlying Tryd.underlying22, sizeOf, typeInfo, hi, Builtin.lenOf, Builtin.firstCells, hnc, storeCells]
/-- An append of bytes onto such as are one's own. -/
theorem b_append_run {w : World} {B n m : Nat} {v : Value} {xs ys : List UInt8} (h : w.ownsRow B 5 1 v n (xs.flatMap bcells)) (A : Option Addr) (c : Nat) (hy : Rg bcells w A ys) (hm : m = ys.length)
    (hs : n + m ≤ 1000000) (hB : B ≤ w.heap.size) :
    ∃ v' w', (Builtin.append_ #[22, 22] 22 #[v, .slice A m c]).run Tryd.prog w = .ok v' w' ∧ w'.ownsRow B 5 1 v' (n + m) ((xs ++ ys).flatMap bcells) ∧ Below B w w' := by
  obtain ⟨i0, hi, hz0, hz1, hz2⟩ := info_parts Tryd.infoB
  have hrows : ∀ k, v.ownBlock = some k → B ≤ k := fun k hk => (h.lt k hk).1
  rcases A with _ | ad
  · have hy0 : ys = [] := by
      cases ys with
      | nil => rfl
      | cons y ys => obtain ⟨b, off, e, _⟩ := hy (by simp); cases e
    subst hy0
    obtain rfl : m = 0 := hm
    exact ⟨v, w, b_nil_run h 22, by simpa using h, Below.refl _ _⟩
  · have hcs : ∀ j u, (ys.flatMap bcells)[j]? = some u → w.cell? (ad.add j) = some u := fun j u hu => by
      have hj : j < ys.length := by
        have := (List.getElem?_eq_some_iff.1 hu).1
        rw [flat_len bcells_len] at this; omega
      obtain ⟨b, off, e, _, hc⟩ := hy (by omega)
      obtain rfl := Option.some.inj e
      rw [show (⟨b, off, none⟩ : Addr).add j = ⟨b, off + j, none⟩ by unfold Addr.add; split <;> simp_all]
      exact hc j u hu
    obtain ⟨v', w', hrun, h2, h3, _, _⟩ := run_append_own_at (P := Tryd.prog) w B 22 22 5 i0 (.int .u8 0) 1 1 Tryd.underlying22 hi hz0 hz1 hz2 rfl (by decide) v n (xs.flatMap bcells) h ad m c (ys.flatMap bcells) (by rw [flat_len bcells_len, hm]) hcs (fun u hu => by obtain ⟨y, _, hy2⟩ := List.mem_flatMap.1 hu; exact bcells_one y u hy2) (by unfold maxLen; omega) (by omega) hB
    exact ⟨v', w', hrun, by rw [List.flatMap_append]; exact h2, (Below.refl B w).grown h3 hB hrows⟩
theorem b_zero_run {w : World} {B n : Nat} {v : Value} {xs : List UInt8} (h : w.ownsRow B 5 1 v n (xs.flatMap bcells)) (hn : 0 < n) :
    (Builtin.append_ #[22, 3] 22 #[v, .int .i64 0]).run Tryd.prog w = .ok v w := by
  obtain ⟨i0, hi, hz0, hz1, hz2⟩ := info_parts Tryd.infoB
  rcases h.2 with ⟨_, rfl⟩ | ⟨g, cap, cur, rfl, _, _, hnc, _⟩
  · omega
  · have hw : IntKind.i64.wrap 0 = 0 := rfl
    simp [Builtin.append_, run_underlying Tryd.underlying22, run_underlying Tryd.underlying3, sizeOf, typeInfo, hi, hz2, asInt, asIntOf, hw, Builtin.lenOf, hnc, storeCells]
theorem b_pad_run {w : World} {B n m : Nat} {v : Value} {xs : List UInt8} (h : w.ownsRow B 5 1 v n (xs.flatMap bcells)) (hn : 0 < n) (hs : n + m ≤ 100000) (hB : B ≤ w.heap.size) :
    ∃ v' w', (Builtin.append_ #[22, 3] 22 #[v, .int .i64 (m : Int)]).run Tryd.prog w = .ok v' w' ∧ w'.ownsRow B 5 1 v' (n + m) ((xs ++ List.replicate m 0).flatMap bcells) ∧ Below B w w' := by
  rcases Nat.eq_zero_or_pos m with rfl | hm
  · exact ⟨v, w, b_zero_run h hn, by simpa using h, Below.refl _ _⟩
  · exact b_zeros_run h hn hm hs hB
theorem rg_byte (w : World) (y : UInt8) {z : Int} (h : z = bz y) : Rg bcells (w.alloc (.cells #[.int .u8 z] 5)) (some ⟨w.heap.size, 0, none⟩) [y] := by
  subst h; exact rg_block (heap_alloc_new w _) rfl

end Go.Proofs.YtjokaaekliapmaaDoor
