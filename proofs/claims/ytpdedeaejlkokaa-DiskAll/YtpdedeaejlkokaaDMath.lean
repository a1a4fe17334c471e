/-
  Disks: sectors, of which writes may be lost: apart from any program.
-/
import Derived.Test.YtpdedeaejlkokaaBase
namespace Go.Proofs.Ytpdedeaejlkokaa
open Go.RowKit

/-- A disk: its sectors, which of them are torn, the writes that are pending, the fuse. -/
structure Dk where
  l : List (List UInt8)
  t : List Bool
  p : List (Nat × List UInt8)
  f : Int
def fillB (c : UInt8) : List UInt8 := List.replicate 64 c
theorem fill_len (c : UInt8) : (fillB c).length = 64 := List.length_replicate
def dkNew (n : Nat) : Dk := ⟨List.replicate n (fillB 0), List.replicate n false, [], -1⟩
def dkTick (d : Dk) : Dk := if 0 < d.f then { d with f := d.f - 1 } else d
def dkLay (d : Dk) (x : Nat × List UInt8) : Dk := { d with l := d.l.set x.1 x.2, t := d.t.set x.1 false }
def dkIn (d : Dk) (i : Int) : Bool := decide (0 ≤ i ∧ i < (d.l.length : Int))
def dkWrite (d : Dk) (i : Int) (b : List UInt8) : Dk × Int :=
  if d.f = 0 then (d, 42) else if b.length ≠ 64 then (dkTick d, 1) else if dkIn d i = false then (dkTick d, 3) else ({ dkTick d with p := d.p ++ [(i.toNat, b)] }, 0)
def dkSync (d : Dk) : Dk × Int := if d.f = 0 then (d, 42) else ({ d.p.foldl dkLay (dkTick d) with p := [] }, 0)
/-- The last write of a sector that is pending. -/
def dkLast : List (Nat × List UInt8) → Nat → Option (List UInt8)
  | [], _ => none
  | x :: xs, i => match dkLast xs i with
    | some b => some b
    | none => if x.1 = i then some x.2 else none
def dkAt (d : Dk) (i : Nat) : List UInt8 × Int := if d.t.getD i false = true then ([], 41) else (d.l.getD i [], 0)
def dkRead (d : Dk) (i : Int) : List UInt8 × Int :=
  if dkIn d i = false then ([], 3) else match dkLast d.p i.toNat with
    | some b => (b, 0)
    | none => dkAt d i.toNat
def dkStep (keep : List Bool) (torn : Int) (k : Nat) (d : Dk) (x : Nat × List UInt8) : Dk :=
  if (k : Int) = torn then { d with t := d.t.set x.1 true } else if keep.getD k false = true then dkLay d x else d
def dkRun (keep : List Bool) (torn : Int) : Nat → List (Nat × List UInt8) → Dk → Dk
  | _, [], d => d
  | k, x :: xs, d => dkRun keep torn (k + 1) xs (dkStep keep torn k d x)
def dkCrash (d : Dk) (keep : List Bool) (torn : Int) : Dk := { dkRun keep torn 0 d.p d with p := [], f := -1 }
def dkFuse (d : Dk) (n : Int) : Dk := { d with f := max n (-1) }
/-- A call of a script. -/
structure Dop where
  w : Int
  a : Int
  c : UInt8
  b : List UInt8
  n : Int
  k : List Bool
def dkDo (d : Dk) (o : Dop) : Dk × Int :=
  if o.w = 4 then dkWrite d o.a o.b else if o.w = 5 ∨ o.w = 6 then dkSync d else if o.w = 7 then (dkFuse d o.n, 0) else if o.w = 8 then (dkCrash d o.k o.n, 0) else dkWrite d o.a (fillB o.c)
def dkAll (d : Dk) : List Dop → Dk
  | [] => d
  | o :: os => dkAll (dkDo d o).1 os

/-! ### What a disk is -/
structure DkOk (n : Nat) (d : Dk) : Prop where
  l : d.l.length = n
  t : d.t.length = n
  b : ∀ x ∈ d.l, x.length = 64
  p : ∀ x ∈ d.p, x.1 < n ∧ x.2.length = 64
  f : -1 ≤ d.f
theorem dk_new (n : Nat) : DkOk n (dkNew n) :=
  ⟨List.length_replicate, List.length_replicate, fun x hx => by rw [List.eq_of_mem_replicate hx]; exact fill_len 0, fun x hx => by simp [dkNew] at hx, by simp [dkNew]⟩
theorem tick_l (d : Dk) : (dkTick d).l = d.l := by unfold dkTick; split <;> rfl
theorem tick_t (d : Dk) : (dkTick d).t = d.t := by unfold dkTick; split <;> rfl
theorem tick_p (d : Dk) : (dkTick d).p = d.p := by unfold dkTick; split <;> rfl
theorem tick_f (d : Dk) : (dkTick d).f = if 0 < d.f then d.f - 1 else d.f := by unfold dkTick; split <;> rfl
theorem lay_f (d : Dk) (x : Nat × List UInt8) : (dkLay d x).f = d.f := rfl
theorem lay_p (d : Dk) (x : Nat × List UInt8) : (dkLay d x).p = d.p := rfl
theorem mem_set_len {l : List (List UInt8)} {i : Nat} {y : List UInt8} (h : ∀ x ∈ l, x.length = 64) (hy : y.length = 64) : ∀ x ∈ l.set i y, x.length = 64 := fun x hx => by
  rcases List.mem_or_eq_of_mem_set hx with q | q
  · exact h x q
  · rw [q]; exact hy
theorem DkOk.tick {n : Nat} {d : Dk} (h : DkOk n d) : DkOk n (dkTick d) :=
  ⟨by rw [tick_l]; exact h.l, by rw [tick_t]; exact h.t, by rw [tick_l]; exact h.b, by rw [tick_p]; exact h.p, by rw [tick_f]; have := h.f; split <;> omega⟩
theorem DkOk.lay {n : Nat} {d : Dk} (h : DkOk n d) {x : Nat × List UInt8} (hx : x.2.length = 64) : DkOk n (dkLay d x) :=
  ⟨by simp [dkLay, h.l], by simp [dkLay, h.t], mem_set_len h.b hx, h.p, h.f⟩
theorem DkOk.lays {n : Nat} : ∀ (p : List (Nat × List UInt8)) {d : Dk}, DkOk n d → (∀ x ∈ p, x.2.length = 64) → DkOk n (p.foldl dkLay d)
  | [], _, h, _ => h
  | x :: p, _, h, hp => DkOk.lays p (h.lay (hp x (by simp))) fun y hy => hp y (by simp [hy])
theorem DkOk.step {n : Nat} {d : Dk} (h : DkOk n d) (keep : List Bool) (torn : Int) (k : Nat) {x : Nat × List UInt8} (hx : x.2.length = 64) : DkOk n (dkStep keep torn k d x) := by
  unfold dkStep
  split
  · exact ⟨h.l, by simp [h.t], h.b, h.p, h.f⟩
  · split
    · exact h.lay hx
    · exact h
theorem DkOk.run {n : Nat} (keep : List Bool) (torn : Int) : ∀ (p : List (Nat × List UInt8)) (k : Nat) {d : Dk}, DkOk n d → (∀ x ∈ p, x.2.length = 64) → DkOk n (dkRun keep torn k p d)
  | [], _, _, h, _ => h
  | x :: p, k, _, h, hp => DkOk.run keep torn p (k + 1) (h.step keep torn k (hp x (by simp))) fun y hy => hp y (by simp [hy])
theorem DkOk.write {n : Nat} {d : Dk} (h : DkOk n d) (i : Int) (b : List UInt8) : DkOk n (dkWrite d i b).1 := by
  unfold dkWrite
  split
  · exact h
  · split
    · exact h.tick
    · rename_i hb
      split
      · exact h.tick
      · rename_i hi
        have hi : dkIn d i = true := by simpa using hi
        have hi2 : 0 ≤ i ∧ i < (d.l.length : Int) := of_decide_eq_true hi
        have ht := h.tick
        refine ⟨ht.l, ht.t, ht.b, fun x hx => ?_, ht.f⟩
        rcases List.mem_append.1 hx with q | q
        · exact h.p x q
        · rw [List.mem_singleton] at q
          subst q
          have := h.l
          exact ⟨by show i.toNat < n; omega, by simpa using hb⟩
theorem DkOk.sync {n : Nat} {d : Dk} (h : DkOk n d) : DkOk n (dkSync d).1 := by
  unfold dkSync
  split
  · exact h
  · have := DkOk.lays d.p h.tick fun x hx => (h.p x hx).2
    exact ⟨this.l, this.t, this.b, fun x hx => by simp at hx, this.f⟩
theorem DkOk.crash {n : Nat} {d : Dk} (h : DkOk n d) (keep : List Bool) (torn : Int) : DkOk n (dkCrash d keep torn) := by
  have := DkOk.run keep torn d.p 0 h fun x hx => (h.p x hx).2
  exact ⟨this.l, this.t, this.b, fun x hx => by simp [dkCrash] at hx, by simp [dkCrash]⟩
theorem DkOk.fuse {n : Nat} {d : Dk} (h : DkOk n d) (k : Int) : DkOk n (dkFuse d k) := ⟨h.l, h.t, h.b, h.p, by unfold dkFuse; dsimp only; omega⟩
theorem DkOk.do' {n : Nat} {d : Dk} (h : DkOk n d) (o : Dop) : DkOk n (dkDo d o).1 := by
  unfold dkDo
  split
  · exact h.write _ _
  · split
    · exact h.sync
    · split
      · exact h.fuse _
      · split
        · exact h.crash _ _
        · exact h.write _ _
theorem DkOk.all {n : Nat} : ∀ (os : List Dop) {d : Dk}, DkOk n d → DkOk n (dkAll d os)
  | [], _, h => h
  | o :: os, _, h => DkOk.all os (h.do' o)
theorem all_snoc (d : Dk) (os : List Dop) (o : Dop) : dkAll d (os ++ [o]) = (dkDo (dkAll d os) o).1 := by
  induction os generalizing d with
  | nil => rfl
  | cons x os ih => exact ih _

/-! ### What is read of one sector -/
theorem last_app (p q : List (Nat × List UInt8)) (i : Nat) : dkLast (p ++ q) i = (dkLast q i).or (dkLast p i) := by
  induction p with
  | nil => simp [dkLast]
  | cons x p ih =>
    rw [List.cons_append, dkLast, ih]
    cases dkLast q i with
    | some b => simp
    | none => simp [dkLast]
theorem last_none {p : List (Nat × List UInt8)} {i : Nat} (h : ∀ x ∈ p, x.1 ≠ i) : dkLast p i = none := by
  induction p with
  | nil => rfl
  | cons x p ih =>
    rw [dkLast, ih fun y hy => h y (by simp [hy])]
    simp [h x (by simp)]
theorem getD_set_ne {α : Type} (l : List α) {i j : Nat} (x d : α) (h : i ≠ j) : (l.set i x).getD j d = l.getD j d := by
  rw [List.getD_eq_getElem?_getD, List.getD_eq_getElem?_getD, List.getElem?_set_ne h]
theorem getD_set_eq {α : Type} (l : List α) {i : Nat} (x d : α) (h : i < l.length) : (l.set i x).getD i d = x := by
  rw [List.getD_eq_getElem?_getD, List.getElem?_set_self h]; rfl
theorem at_lay_ne (d : Dk) (x : Nat × List UInt8) {k : Nat} (h : x.1 ≠ k) : dkAt (dkLay d x) k = dkAt d k := by
  unfold dkAt dkLay
  dsimp only
  rw [getD_set_ne _ _ _ h, getD_set_ne _ _ _ h]
theorem at_lay_eq {n : Nat} {d : Dk} (hd : DkOk n d) (x : Nat × List UInt8) (h : x.1 < n) : dkAt (dkLay d x) x.1 = (x.2, 0) := by
  unfold dkAt dkLay
  dsimp only
  rw [getD_set_eq _ _ _ (by rw [hd.t]; exact h), getD_set_eq _ _ _ (by rw [hd.l]; exact h)]
  rfl
theorem at_tick (d : Dk) (k : Nat) : dkAt (dkTick d) k = dkAt d k := by unfold dkAt; rw [tick_l, tick_t]
/-- What is laid of a row of writes. -/
theorem at_lays {n : Nat} : ∀ (p : List (Nat × List UInt8)) {d : Dk}, DkOk n d → (∀ x ∈ p, x.1 < n ∧ x.2.length = 64) → ∀ k, dkAt (p.foldl dkLay d) k = match dkLast p k with | some b => (b, 0) | none => dkAt d k
  | [], _, _, _, _ => rfl
  | x :: p, d, hd, hp, k => by
    rw [List.foldl_cons, at_lays p (hd.lay (hp x (by simp)).2) (fun y hy => hp y (by simp [hy])) k, dkLast]
    cases dkLast p k with
    | some b => rfl
    | none =>
      by_cases q : x.1 = k
      · subst q
        simp only [if_true]
        exact at_lay_eq hd x (hp x (by simp)).1
      · simp only [if_neg q]
        exact at_lay_ne d x q
theorem at_step_ne (keep : List Bool) (torn : Int) (j : Nat) (d : Dk) (x : Nat × List UInt8) {k : Nat} (h : x.1 ≠ k) : dkAt (dkStep keep torn j d x) k = dkAt d k := by
  unfold dkStep
  split
  · unfold dkAt
    dsimp only
    rw [getD_set_ne _ _ _ h]
  · split
    · exact at_lay_ne d x h
    · rfl
theorem at_run_ne (keep : List Bool) (torn : Int) {k : Nat} : ∀ (p : List (Nat × List UInt8)) (j : Nat) (d : Dk), (∀ x ∈ p, x.1 ≠ k) → dkAt (dkRun keep torn j p d) k = dkAt d k
  | [], _, _, _ => rfl
  | x :: p, j, d, h => by
    rw [dkRun, at_run_ne keep torn p (j + 1) _ fun y hy => h y (by simp [hy]), at_step_ne _ _ _ _ _ (h x (by simp))]
theorem run_l (keep : List Bool) (torn : Int) : ∀ (p : List (Nat × List UInt8)) (j : Nat) (d : Dk), (dkRun keep torn j p d).l.length = d.l.length
  | [], _, _ => rfl
  | x :: p, j, d => by
    rw [dkRun, run_l keep torn p (j + 1)]
    unfold dkStep
    split
    · rfl
    · split
      · simp [dkLay]
      · rfl
theorem run_snoc (keep : List Bool) (torn : Int) : ∀ (p : List (Nat × List UInt8)) (x : Nat × List UInt8) (j : Nat) (d : Dk), dkRun keep torn j (p ++ [x]) d = dkStep keep torn (j + p.length) (dkRun keep torn j p d) x
  | [], x, j, d => rfl
  | y :: p, x, j, d => by
    rw [List.cons_append, dkRun, run_snoc keep torn p x (j + 1), dkRun, List.length_cons, show j + 1 + p.length = j + (p.length + 1) by omega]

/-! ### P15.2: what lasts -/
/-- No write of sector k is pending, and it reads so. -/
structure Still (n k : Nat) (r : List UInt8 × Int) (d : Dk) : Prop where
  ok : DkOk n d
  q : ∀ x ∈ d.p, x.1 ≠ k
  a : dkAt d k = r
theorem Still.read {n k : Nat} {r : List UInt8 × Int} {d : Dk} (h : Still n k r d) (hk : k < n) : dkRead d (k : Int) = r := by
  unfold dkRead
  have : dkIn d (k : Int) = true := decide_eq_true ⟨by omega, by rw [h.ok.l]; omega⟩
  rw [if_neg (by rw [this]; decide), Int.toNat_natCast, last_none h.q]
  exact h.a
theorem Still.tick {n k : Nat} {r : List UInt8 × Int} {d : Dk} (h : Still n k r d) : Still n k r (dkTick d) :=
  ⟨h.ok.tick, by rw [tick_p]; exact h.q, by rw [at_tick]; exact h.a⟩
theorem Still.write {n k : Nat} {r : List UInt8 × Int} {d : Dk} (h : Still n k r d) (i : Int) (b : List UInt8) (hi : i ≠ (k : Int)) : Still n k r (dkWrite d i b).1 := by
  refine ⟨h.ok.write i b, ?_, ?_⟩ <;> unfold dkWrite
  · split
    · exact h.q
    · split
      · exact h.tick.q
      · split
        · exact h.tick.q
        · rename_i hi2
          have hi2 : dkIn d i = true := by simpa using hi2
          have hi3 : 0 ≤ i ∧ i < (d.l.length : Int) := of_decide_eq_true hi2
          intro x hx
          rcases List.mem_append.1 hx with q | q
          · exact h.q x q
          · rw [List.mem_singleton] at q
            subst q
            show i.toNat ≠ k
            omega
  · split
    · exact h.a
    · split
      · exact h.tick.a
      · split
        · exact h.tick.a
        · exact h.tick.a
theorem Still.sync {n k : Nat} {r : List UInt8 × Int} {d : Dk} (h : Still n k r d) : Still n k r (dkSync d).1 := by
  refine ⟨h.ok.sync, ?_, ?_⟩ <;> unfold dkSync
  · split
    · exact h.q
    · intro x hx; simp at hx
  · split
    · exact h.a
    · show dkAt (d.p.foldl dkLay (dkTick d)) k = r
      rw [at_lays d.p h.ok.tick h.ok.p, last_none h.q]
      exact h.tick.a
theorem Still.crash {n k : Nat} {r : List UInt8 × Int} {d : Dk} (h : Still n k r d) (keep : List Bool) (torn : Int) : Still n k r (dkCrash d keep torn) :=
  ⟨h.ok.crash keep torn, fun x hx => by simp [dkCrash] at hx, by
    show dkAt (dkRun keep torn 0 d.p d) k = r
    rw [at_run_ne keep torn d.p 0 d h.q]; exact h.a⟩
theorem Still.fuse {n k : Nat} {r : List UInt8 × Int} {d : Dk} (h : Still n k r d) (m : Int) : Still n k r (dkFuse d m) := ⟨h.ok.fuse m, h.q, h.a⟩
/-- A call that is no write of sector k. -/
theorem Still.do' {n k : Nat} {r : List UInt8 × Int} {d : Dk} (h : Still n k r d) (o : Dop) (ho : ¬ ((o.w < 5 ∨ 8 < o.w) ∧ o.a = (k : Int))) : Still n k r (dkDo d o).1 := by
  unfold dkDo
  split
  · exact h.write _ _ fun q => ho ⟨by omega, q⟩
  · split
    · exact h.sync
    · split
      · exact h.fuse _
      · split
        · exact h.crash _ _
        · exact h.write _ _ fun q => ho ⟨by omega, q⟩
/-- Behind a Sync nothing is pending. -/
theorem still_sync {n : Nat} {d : Dk} (h : DkOk n d) (hs : (dkSync d).2 = 0) (k : Nat) (hk : k < n) : Still n k (dkRead (dkSync d).1 (k : Int)) (dkSync d).1 := by
  have hok := h.sync
  have hp : (dkSync d).1.p = [] := by
    unfold dkSync at hs ⊢
    split
    · rename_i q; rw [if_pos q] at hs; cases hs
    · rfl
  refine ⟨hok, fun x hx => by rw [hp] at hx; simp at hx, ?_⟩
  unfold dkRead
  have : dkIn (dkSync d).1 (k : Int) = true := decide_eq_true ⟨by omega, by rw [hok.l]; omega⟩
  rw [if_neg (by rw [this]; decide), Int.toNat_natCast, hp]
  rfl

/-! ### P15.4: all of it -/
theorem run_all (keep : List Bool) : ∀ (p : List (Nat × List UInt8)) (j : Nat) (d : Dk), (∀ i, i < j + p.length → keep.getD i false = true) → dkRun keep (-1) j p d = p.foldl dkLay d
  | [], _, _, _ => rfl
  | x :: p, j, d, h => by
    rw [dkRun, List.foldl_cons, run_all keep p (j + 1) _ fun i hi => h i (by rw [List.length_cons]; omega)]
    unfold dkStep
    rw [if_neg (by omega), if_pos (h j (by rw [List.length_cons]; omega))]
/-- With all kept, and none torn, what is read stays. -/
theorem read_all {n : Nat} {d : Dk} (h : DkOk n d) (keep : List Bool) (hk : ∀ i, i < d.p.length → keep.getD i false = true) (i : Int) : dkRead (dkCrash d keep (-1)) i = dkRead d i := by
  have hc := h.crash keep (-1)
  unfold dkRead
  have hin : dkIn (dkCrash d keep (-1)) i = dkIn d i := by unfold dkIn; rw [hc.l, h.l]
  rw [hin]
  split
  · rfl
  · show dkAt (dkRun keep (-1) 0 d.p d) i.toNat = _
    rw [run_all keep d.p 0 d (by simpa using hk), at_lays d.p h h.p]
/-- A crash with nothing pending changes nothing that is read. -/
theorem read_none {n : Nat} {d : Dk} (_h : DkOk n d) (hp : d.p = []) (keep : List Bool) (torn : Int) (i : Int) : dkRead (dkCrash d keep torn) i = dkRead d i := by
  unfold dkRead dkCrash dkIn dkAt
  rw [hp]
  rfl
theorem do_len (d : Dk) (o : Dop) : (dkDo d o).1.p.length ≤ d.p.length + 1 := by
  have hw : ∀ i b, (dkWrite d i b).1.p.length ≤ d.p.length + 1 := fun i b => by
    unfold dkWrite
    split
    · exact Nat.le_succ _
    · split
      · rw [tick_p]; exact Nat.le_succ _
      · split
        · rw [tick_p]; exact Nat.le_succ _
        · simp
  unfold dkDo
  split
  · exact hw _ _
  · split
    · unfold dkSync
      split
      · exact Nat.le_succ _
      · simp
    · split
      · exact Nat.le_succ _
      · split
        · simp [dkCrash]
        · exact hw _ _
theorem all_len : ∀ (os : List Dop) (d : Dk), (dkAll d os).p.length ≤ d.p.length + os.length
  | [], d => by simp [dkAll]
  | o :: os, d => by
    have := all_len os (dkDo d o).1
    have := do_len d o
    rw [dkAll, List.length_cons]
    omega

end Go.Proofs.Ytpdedeaejlkokaa
