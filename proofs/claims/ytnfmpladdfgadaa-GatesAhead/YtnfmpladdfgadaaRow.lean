/-
  Rows of structs in memory, cell for cell; those of shapes and of what is known of layers; what total answers.
-/
import Derived.Test.YtnfmpladdfgadaaKnown
import Derived.OwnWalk
namespace Go.Proofs.Ytnfmpladdfgadaa
open Go.RowKit

theorem flat_len {α : Type} {f : α → List Value} {m : Nat} (hf : ∀ x, (f x).length = m) : ∀ xs : List α, (xs.flatMap f).length = xs.length * m
  | [] => by simp
  | x :: xs => by rw [List.flatMap_cons, List.length_append, flat_len hf xs, hf, List.length_cons, Nat.succ_mul]; omega
theorem flat_get {α : Type} {f : α → List Value} {m : Nat} (hf : ∀ x, (f x).length = m) : ∀ (xs : List α) (j r : Nat) (x : α), xs[j]? = some x → r < m → (xs.flatMap f)[j * m + r]? = (f x)[r]?
  | [], j, r, x, h, _ => by simp at h
  | y :: ys, 0, r, x, h, hr => by
    simp only [List.getElem?_cons_zero, Option.some.injEq] at h
    subst h
    rw [List.flatMap_cons, Nat.zero_mul, Nat.zero_add, List.getElem?_append_left (by rw [hf]; exact hr)]
  | y :: ys, j + 1, r, x, h, hr => by
    have e : (j + 1) * m + r = (f y).length + (j * m + r) := by rw [hf, Nat.succ_mul]; omega
    rw [List.flatMap_cons, e, List.getElem?_append_right (by omega), Nat.add_sub_cancel_left]
    exact flat_get hf ys j r x (by simpa using h) hr

/-- A slice's address, behind which the structs lie. -/
def Rg {α : Type} (f : α → List Value) (w : World) (A : Option Addr) (xs : List α) : Prop :=
  0 < xs.length → ∃ b off, A = some ⟨b, off, none⟩ ∧ b < w.heap.size ∧ ∀ j u, (xs.flatMap f)[j]? = some u → w.cell? ⟨b, off + j, none⟩ = some u
theorem Rg.nil {α : Type} (f : α → List Value) (w : World) (A : Option Addr) : Rg f w A [] := fun h => absurd h (by simp)
theorem Rg.below {α : Type} {f : α → List Value} {w w' : World} {A : Option Addr} {xs : List α} (h : Rg f w A xs) (hb : Below w.heap.size w w') : Rg f w' A xs := fun h0 => by
  obtain ⟨b, off, e, hlt, hc⟩ := h h0
  exact ⟨b, off, e, Nat.lt_of_lt_of_le hlt hb.size, fun j u hj => (hb.cell (p := ⟨b, off + j, none⟩) hlt).trans (hc j u hj)⟩
theorem Rg.alloc {α : Type} {f : α → List Value} {w : World} {A : Option Addr} {xs : List α} (h : Rg f w A xs) (o : Obj) : Rg f (w.alloc o) A xs :=
  h.below ((Below.refl _ w).alloc (Nat.le_refl _) o)
theorem Rg.at {α : Type} {f : α → List Value} {m : Nat} (hf : ∀ x, (f x).length = m) {w : World} {b off : Nat} {xs : List α}
    (h : ∀ j u, (xs.flatMap f)[j]? = some u → w.cell? ⟨b, off + j, none⟩ = some u) {k : Nat} {x : α} (hx : xs[k]? = some x) : ∀ r u, (f x)[r]? = some u → w.cell? ⟨b, off + k * m + r, none⟩ = some u := fun r u hu => by
  have hr : r < m := by rw [← hf x]; exact (List.getElem?_eq_some_iff.1 hu).1
  rw [Nat.add_assoc]
  exact h _ _ ((flat_get hf xs k r x hx hr).trans hu)
theorem own_rg {α : Type} {f : α → List Value} {m : Nat} (hf : ∀ x, (f x).length = m) (hm : 0 < m) {w : World} {B e n : Nat} {v : Value} {xs : List α} (h : w.ownsRow B e m v n (xs.flatMap f)) :
    ∃ A c, v = .slice A n c ∧ n = xs.length ∧ Rg f w A xs := by
  have hl := h.1
  rw [flat_len hf] at hl
  have hn : n = xs.length := (Nat.eq_of_mul_eq_mul_right hm hl).symm
  rcases h.2 with ⟨hv, h0⟩ | ⟨g, cp, cur, hv, _, hh, _, _, _, ht⟩
  · subst hv h0
    exact ⟨none, 0, rfl, hn, fun hp => absurd hp (by omega)⟩
  · subst hv
    refine ⟨_, cp, rfl, hn, fun _ => ⟨g, 0, rfl, (Array.getElem?_eq_some_iff.1 hh).1, fun j u hj => ?_⟩⟩
    rw [Nat.zero_add, Lib.cell_of_heap hh]
    rw [← ht] at hj
    have hj2 := hj
    rw [List.getElem?_take] at hj
    split at hj
    · rw [Array.getElem?_toList] at hj; exact hj
    · cases hj

def scells (s : Sh) : List Value := [.int .i64 s.c, .int .i64 s.h, .int .i64 s.x]
theorem kcells_len (k : Kn) : (kcells k).length = 11 := rfl
theorem scells_len (s : Sh) : (scells s).length = 3 := rfl
abbrev Rk (w : World) (A : Option Addr) (ks : List Kn) : Prop := Rg kcells w A ks
abbrev Rs (w : World) (A : Option Addr) (ss : List Sh) : Prop := Rg scells w A ss

/-- What is known of a layer, in a variable. -/
def KB (w : World) (b : Nat) (k : Kn) : Prop := w.heap[b]? = some (.cells #[.int .i64 k.l.k, .int .i64 k.l.o, .int .i64 k.l.s, .int .i64 k.l.t, .int .i64 k.i.c, .int .i64 k.i.h, .int .i64 k.i.x, .int .i64 k.u.c, .int .i64 k.u.h, .int .i64 k.u.x, .int .i64 k.a] 76 (0, 0))
theorem KB.lt {w : World} {b : Nat} {k : Kn} (H : KB w b k) : b < w.heap.size := (Array.getElem?_eq_some_iff.1 H).1
theorem KB.below {w w' : World} {b : Nat} {k : Kn} (H : KB w b k) (hb : Below w.heap.size w w') : KB w' b k := (hb.block b H.lt).trans H
theorem KB.new (w : World) (k : Kn) : KB (w.alloc (.cells #[.int .i64 k.l.k, .int .i64 k.l.o, .int .i64 k.l.s, .int .i64 k.l.t, .int .i64 k.i.c, .int .i64 k.i.h, .int .i64 k.i.x, .int .i64 k.u.c, .int .i64 k.u.h, .int .i64 k.u.x, .int .i64 k.a] 76)) w.heap.size k := by
  show (w.heap.push _)[w.heap.size]? = _
  simp
theorem KB.alloc {w : World} {b : Nat} {k : Kn} (H : KB w b k) (o : Obj) : KB (w.alloc o) b k := (Lib.alloc_old w o b H.lt).trans H
theorem KB.cells {w : World} {b : Nat} {k : Kn} (H : KB w b k) :
    w.cell? ⟨b, 0, none⟩ = some (.int .i64 k.l.k) ∧ w.cell? ⟨b, 1, none⟩ = some (.int .i64 k.l.o) ∧ w.cell? ⟨b, 2, none⟩ = some (.int .i64 k.l.s) ∧ w.cell? ⟨b, 3, none⟩ = some (.int .i64 k.l.t) ∧
    w.cell? ⟨b, 4, none⟩ = some (.int .i64 k.i.c) ∧ w.cell? ⟨b, 5, none⟩ = some (.int .i64 k.i.h) ∧ w.cell? ⟨b, 6, none⟩ = some (.int .i64 k.i.x) ∧
    w.cell? ⟨b, 7, none⟩ = some (.int .i64 k.u.c) ∧ w.cell? ⟨b, 8, none⟩ = some (.int .i64 k.u.h) ∧ w.cell? ⟨b, 9, none⟩ = some (.int .i64 k.u.x) ∧ w.cell? ⟨b, 10, none⟩ = some (.int .i64 k.a) := by
  refine ⟨?_, ?_, ?_, ?_, ?_, ?_, ?_, ?_, ?_, ?_, ?_⟩ <;> (rw [Lib.cell_of_heap H]; rfl)

def TotPost (ks : List Kn) (w : World) (e : Ending) (w' : World) : Prop := e = .returned (.tuple #[.int .i64 (totW ks), .int .i64 (totP ks)]) ∧ Below w.heap.size w w'
theorem take_bd {ks : List Kn} (h : ∀ k ∈ ks, KnOk k) (hn : ks.length ≤ 1000) (k : Nat) : 0 ≤ totW (ks.take k) ∧ totW (ks.take k) ≤ 9216000 ∧ 0 ≤ totP (ks.take k) ∧ totP (ks.take k) ≤ 1327104000 := by
  have a := tot_bd (ks.take k) fun x hx => h x (List.mem_of_mem_take hx)
  have b : (ks.take k).length ≤ 1000 := by rw [List.length_take]; omega
  omega

set_option maxHeartbeats 2000000 in
theorem total_any (ks : List Kn) (A : Option Addr) (cA n : Nat) (w : World) (hx : Rk w A ks) (ln : n = ks.length) (hn : n ≤ 1000) (hok : ∀ k ∈ ks, KnOk k) :
    Calls Try.prog 62 #[.slice A n cA] w (TotPost ks w) := by
  have HX := Lib.hid hx; have LX := Lib.hid ln; have OK := Lib.hid hok
  clear hx ln hok
  go_enter Try.func62, Try.ntmps62
  go_wp2_with fail
  go_loopw [4, 5, 10] (fun a b i wr => ∃ k : Nat, k ≤ n ∧ a = .int .i64 (totW (ks.take k)) ∧ b = .int .i64 (totP (ks.take k)) ∧ i = .int .i64 k ∧ Hid (Below w.heap.size w wr)) (fun _ _ i _ => n - (intOf i).toNat)
  case atStart => exact ⟨0, Nat.zero_le _, rfl, rfl, rfl, Below.refl _ _⟩
  case round =>
    obtain ⟨k, hk, rfl, rfl, rfl, HC⟩ := hrel
    by_cases hlt : k < n
    · have hkl : k < ks.length := by rw [← LX.out]; exact hlt
      obtain ⟨b1, o1, rfl, l1, q⟩ := HX.out (by omega)
      obtain ⟨K, hK⟩ : ∃ K, ks[k]? = some K := ⟨_, List.getElem?_eq_getElem hkl⟩
      have HK := Lib.hid hK
      have hoK := OK.out K (List.mem_of_getElem? hK)
      have HOK := Lib.hid hoK
      have q1 := Rg.at kcells_len q hK
      have q2 : ∀ r u, (kcells K)[r]? = some u → wr.cell? ⟨b1, o1 + k * 11 + r, none⟩ = some u := fun r u hu => (HC.out.cell (p := ⟨b1, o1 + k * 11 + r, none⟩) l1).trans (q1 r u hu)
      have p0 : wr.cell? ⟨b1, o1 + k * 11, none⟩ = _ := q2 0 _ rfl
      have p1 := q2 1 _ rfl
      have p2 := q2 2 _ rfl
      have p3 := q2 3 _ rfl
      have p4 := q2 4 _ rfl
      have p5 := q2 5 _ rfl
      have p6 := q2 6 _ rfl
      have p7 := q2 7 _ rfl
      have p8 := q2 8 _ rfl
      have p9 := q2 9 _ rfl
      have p10 := q2 10 _ rfl
      have bd := take_bd OK.out (by rw [← LX.out]; exact hn) k
      have bw := hoK.w
      have bp := hoK.p
      obtain ⟨x, hxe⟩ : ∃ x, x = totW (ks.take k) := ⟨_, rfl⟩
      obtain ⟨y, hye⟩ : ∃ y, y = totP (ks.take k) := ⟨_, rfl⟩
      obtain ⟨e, he⟩ : ∃ e, e = K.w := ⟨_, rfl⟩
      obtain ⟨f, hf⟩ : ∃ f, f = K.p := ⟨_, rfl⟩
      have HT : Hid (totW (ks.take (k + 1)) = x + e ∧ totP (ks.take (k + 1)) = y + f) := by
        have := tot_snoc (ks.take k) K
        rw [← take_get hK] at this
        rw [hxe, hye, he, hf]; exact this
      rw [← hxe, ← hye] at bd
      rw [← he] at bw
      rw [← hf] at bp
      rw [← hxe, ← hye]
      have HE := Lib.hid he; have HF := Lib.hid hf
      obtain ⟨bd1, bd2, bd3, bd4⟩ := bd
      obtain ⟨bw1, bw2⟩ := bw
      obtain ⟨bp1, bp2⟩ := bp
      clear q q1 q2 hK hoK hxe hye he hf
      go_wp2_with fail
      refine (weights_is K e HE.out.symm _ HOK.out).mono ?_
      rintro e1 w1 ⟨rfl, hb1⟩
      have HB1 := Lib.hid (chain (HC.out.alloc HC.out.size _) hb1)
      have z1 : wr.heap.size < w1.heap.size := by have := hb1.size; simp at this; omega
      have hKB := (KB.new wr K).below hb1
      obtain ⟨r0, r1, r2, r3, r4, r5, r6, r7, r8, r9, r10⟩ := hKB.cells
      clear hb1 hKB p0 p1 p2 p3 p4 p5 p6 p7 p8 p9 p10
      go_wp2_with fail
      refine ((products_any K _ HOK.out).mono ?_)
      rintro e1 w2 ⟨rfl, hb2⟩
      rw [← HF.out]
      have HB2 := Lib.hid (chain HB1.out hb2)
      clear hb2
      go_wp2_with fail
      go_roundw
      case rel => exact ⟨k + 1, by omega, by rw [HT.out.1], by rw [HT.out.2], by go_num, HB2⟩
      case measure => simp [intOf]; omega
    · obtain rfl : k = n := by omega
      have e : ks.take k = ks := by rw [LX.out, List.take_length]
      rw [e]
      go_wp2_with fail
      go_ret2
      exact ⟨rfl, HC.out⟩

end Go.Proofs.Ytnfmpladdfgadaa
