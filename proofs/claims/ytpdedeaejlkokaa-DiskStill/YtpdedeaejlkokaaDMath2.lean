/-
  Disks, what may be behind a crash, fuses, and writes of two sectors: apart from any program.
-/
import Derived.Test.YtpdedeaejlkokaaDMath
namespace Go.Proofs.Ytpdedeaejlkokaa
open Go.RowKit

theorem in_yes15 {n : Nat} {d : Dk} (h : DkOk n d) {k : Nat} (hk : k < n) : dkIn d (k : Int) = true := decide_eq_true ⟨by omega, by rw [h.l]; omega⟩
theorem in_out15 {n : Nat} {d : Dk} (h : DkOk n d) {i : Int} (hi : dkIn d i = true) : 0 ≤ i ∧ i < (n : Int) := by
  have : 0 ≤ i ∧ i < (d.l.length : Int) := of_decide_eq_true hi
  rw [h.l] at this; exact this
theorem in_no15 {n : Nat} {d : Dk} (h : DkOk n d) {i : Int} (hi : ¬ (0 ≤ i ∧ i < (n : Int))) : dkIn d i = false := decide_eq_false fun q => hi (by rw [h.l] at q; exact q)
/-- What is read where nothing is pending. -/
theorem read_at {n : Nat} {d : Dk} (h : DkOk n d) (hp : d.p = []) {k : Nat} (hk : k < n) : dkRead d (k : Int) = dkAt d k := by
  unfold dkRead
  rw [if_neg (by rw [in_yes15 h hk]; decide), Int.toNat_natCast, hp]
  rfl
theorem tick_no {d : Dk} (h : d.f ≤ 0) : dkTick d = d := by unfold dkTick; rw [if_neg (by omega)]
theorem write_no {d : Dk} (hf : d.f = -1) {i : Int} {b : List UInt8} (hb : b.length = 64) (hi : dkIn d i = false) : dkWrite d i b = (d, 3) := by
  unfold dkWrite
  rw [if_neg (by omega), if_neg (by omega), if_pos hi, tick_no (by omega)]
theorem write_yes {d : Dk} (hf : d.f = -1) {i : Int} {b : List UInt8} (hb : b.length = 64) (hi : dkIn d i = true) : dkWrite d i b = ({ d with p := d.p ++ [(i.toNat, b)] }, 0) := by
  unfold dkWrite
  rw [if_neg (by omega), if_neg (by omega), if_neg (by rw [hi]; decide), tick_no (by omega)]

/-! ### P15.3: what may be -/
theorem at_step_eq {n : Nat} {d : Dk} (hd : DkOk n d) (keep : List Bool) (torn : Int) (j : Nat) (x : Nat × List UInt8) (hx : x.1 < n) :
    dkAt (dkStep keep torn j d x) x.1 = if (j : Int) = torn then ([], 41) else if keep.getD j false = true then (x.2, 0) else dkAt d x.1 := by
  unfold dkStep
  split
  · unfold dkAt
    dsimp only
    rw [getD_set_eq _ _ _ (by rw [hd.t]; exact hx)]
    rfl
  · split
    · exact at_lay_eq hd x hx
    · rfl
theorem run_same (keep : List Bool) (torn : Int) : ∀ (p : List (Nat × List UInt8)) (j : Nat) {d e : Dk}, d.l = e.l → d.t = e.t → (dkRun keep torn j p d).l = (dkRun keep torn j p e).l ∧ (dkRun keep torn j p d).t = (dkRun keep torn j p e).t
  | [], _, _, _, h1, h2 => ⟨h1, h2⟩
  | x :: p, j, d, e, h1, h2 => by
    rw [dkRun, dkRun]
    refine run_same keep torn p (j + 1) ?_ ?_ <;> unfold dkStep
    · split
      · exact h1
      · split
        · simp [dkLay, h1]
        · exact h1
    · split
      · simp [h2]
      · split
        · simp [dkLay, h2]
        · exact h2
theorem at_same {d e : Dk} (h1 : d.l = e.l) (h2 : d.t = e.t) (k : Nat) : dkAt d k = dkAt e k := by unfold dkAt; rw [h1, h2]
/-- Writes are pending, and this is what a crash makes of sector k. -/
structure May (n k : Nat) (keep : List Bool) (torn : Int) (r : List UInt8 × Int) (m : Nat) (d : Dk) : Prop where
  ok : DkOk n d
  f : d.f = -1
  m : d.p.length = m
  a : dkAt (dkRun keep torn 0 d.p d) k = r
theorem May.start {n k : Nat} (keep : List Bool) (torn : Int) {d : Dk} (h : DkOk n d) (hf : d.f = -1) (hp : d.p = []) : May n k keep torn (dkAt d k) 0 d :=
  ⟨h, hf, by rw [hp]; rfl, by rw [hp]; rfl⟩
theorem May.write {n k : Nat} {keep : List Bool} {torn : Int} {r : List UInt8 × Int} {m : Nat} {d : Dk} (h : May n k keep torn r m d) (i : Nat) (hi : i < n) (b : List UInt8) (hb : b.length = 64) :
    May n k keep torn (if i = k then (if (m : Int) = torn then ([], 41) else if keep.getD m false = true then (b, 0) else r) else r) (m + 1) { d with p := d.p ++ [(i, b)] } := by
  have e : ({ d with p := d.p ++ [(i, b)] } : Dk) = (dkWrite d (i : Int) b).1 := by
    rw [write_yes h.f hb (in_yes15 h.ok hi), Int.toNat_natCast]
  refine ⟨by rw [e]; exact h.ok.write _ _, h.f, by simp [h.m], ?_⟩
  have s := run_same keep torn (d.p ++ [(i, b)]) 0 (d := { d with p := d.p ++ [(i, b)] }) (e := d) rfl rfl
  show dkAt (dkRun keep torn 0 (d.p ++ [(i, b)]) { d with p := d.p ++ [(i, b)] }) k = _
  rw [at_same s.1 s.2, run_snoc, Nat.zero_add, h.m]
  have hr := DkOk.run keep torn d.p 0 h.ok fun x hx => (h.ok.p x hx).2
  by_cases q : i = k
  · subst q
    rw [if_pos rfl, at_step_eq hr keep torn m (i, b) hi, h.a]
  · rw [if_neg q, at_step_ne _ _ _ _ _ q, h.a]
theorem May.read {n k : Nat} {keep : List Bool} {torn : Int} {r : List UInt8 × Int} {m : Nat} {d : Dk} (h : May n k keep torn r m d) (hk : k < n) : dkRead (dkCrash d keep torn) (k : Int) = r := by
  rw [read_at (h.ok.crash keep torn) rfl hk]
  exact h.a

/-! ### Fuses -/
/-- A call that is none of Fuse, Crash. -/
theorem do_dead {d : Dk} (hf : d.f = 0) {o : Dop} (h7 : o.w ≠ 7) (h8 : o.w ≠ 8) : dkDo d o = (d, 42) := by
  unfold dkDo dkWrite dkSync
  rw [if_pos hf, if_pos hf, if_neg h7, if_neg h8, if_pos hf]
  simp
theorem do_done {d : Dk} (hf : d.f ≠ 0) {o : Dop} (h7 : o.w ≠ 7) (h8 : o.w ≠ 8) : (dkDo d o).2 ≠ 42 ∧ (dkDo d o).1.f = (dkTick d).f := by
  have hw : ∀ i b, (dkWrite d i b).2 ≠ 42 ∧ (dkWrite d i b).1.f = (dkTick d).f := fun i b => by
    unfold dkWrite
    rw [if_neg hf]
    split
    · exact ⟨(show (1 : Int) ≠ 42 by decide), rfl⟩
    · split
      · exact ⟨(show (3 : Int) ≠ 42 by decide), rfl⟩
      · exact ⟨(show (0 : Int) ≠ 42 by decide), rfl⟩
  have lf : ∀ (p : List (Nat × List UInt8)) (e : Dk), (p.foldl dkLay e).f = e.f := fun p => by
    induction p with
    | nil => exact fun _ => rfl
    | cons x p ih => exact fun e => ih _
  unfold dkDo
  split
  · exact hw _ _
  · split
    · unfold dkSync
      rw [if_neg hf]
      exact ⟨by show (0 : Int) ≠ 42; decide, lf _ _⟩
    · exact hw _ _
/-- So many calls have been done since the fuse was laid. -/
def Fused (n many : Nat) (d : Dk) : Prop := d.f = ((n - many : Nat) : Int)
theorem fused_do {n many : Nat} {d : Dk} (h : Fused n many d) {o : Dop} (h7 : o.w ≠ 7) (h8 : o.w ≠ 8) :
    ((dkDo d o).2 = 42 ↔ n ≤ many) ∧ (n ≤ many → (dkDo d o).1 = d) ∧ Fused n (many + 1) (dkDo d o).1 := by
  unfold Fused at h
  by_cases q : n ≤ many
  · have f0 : d.f = 0 := by omega
    rw [do_dead f0 h7 h8]
    exact ⟨⟨fun _ => q, fun _ => rfl⟩, fun _ => rfl, by unfold Fused; show d.f = _; omega⟩
  · have f0 : d.f ≠ 0 := by omega
    obtain ⟨a, b⟩ := do_done f0 h7 h8
    refine ⟨⟨fun e => absurd e a, fun e => absurd e q⟩, fun e => absurd e q, ?_⟩
    unfold Fused
    rw [b, tick_f, if_pos (by omega)]
    omega

/-! ### Writes of two sectors -/
theorem sync_clean {n : Nat} {d : Dk} (h : DkOk n d) (hf : d.f = -1) : DkOk n (dkSync d).1 ∧ (dkSync d).1.f = -1 ∧ (dkSync d).1.p = [] ∧ (dkSync d).2 = 0 := by
  refine ⟨h.sync, ?_, ?_, ?_⟩ <;> unfold dkSync <;> rw [if_neg (by omega)]
  have lf : ∀ (p : List (Nat × List UInt8)) (e : Dk), (p.foldl dkLay e).f = e.f := fun p => by
    induction p with
    | nil => exact fun _ => rfl
    | cons x p ih => exact fun e => ih _
  show (d.p.foldl dkLay (dkTick d)).f = -1
  rw [lf, tick_no (by omega), hf]
theorem two_writes {n : Nat} {d : Dk} (h : DkOk n d) (hf : d.f = -1) (hp : d.p = []) {i k : Nat} (hi : i < n) (hk : k < n) (a b : UInt8) :
    (dkWrite (dkWrite d (i : Int) (fillB a)).1 (k : Int) (fillB b)).1 = { d with p := [(i, fillB a), (k, fillB b)] } := by
  have h1 := write_yes hf (fill_len a) (in_yes15 h hi)
  rw [h1]
  have ok := h.write (i : Int) (fillB a)
  rw [h1] at ok
  rw [write_yes (d := { d with p := d.p ++ [((i : Int).toNat, fillB a)] }) hf (fill_len b) (in_yes15 ok hk), hp]
  simp
theorem at_two {n : Nat} {d : Dk} (h : DkOk n d) {i k : Nat} (hi : i < n) (hk : k < n) (a b : UInt8) (keep : Bool) (j : Nat) :
    dkAt (dkCrash { d with p := [(i, fillB a), (k, fillB b)] } [keep, keep] (-1)) j = if keep = true then (if k = j then (fillB b, 0) else if i = j then (fillB a, 0) else dkAt d j) else dkAt d j := by
  show dkAt (dkRun [keep, keep] (-1) 0 [(i, fillB a), (k, fillB b)] { d with p := [(i, fillB a), (k, fillB b)] }) j = _
  cases keep with
  | false =>
    rw [if_neg (by decide)]
    simp [dkRun, dkStep]
    exact at_same rfl rfl j
  | true =>
    rw [if_pos rfl]
    have e : dkRun [true, true] (-1) 0 [(i, fillB a), (k, fillB b)] { d with p := [(i, fillB a), (k, fillB b)] } = [(i, fillB a), (k, fillB b)].foldl dkLay { d with p := [(i, fillB a), (k, fillB b)] } := by
      refine run_all _ _ 0 _ fun m hm => ?_
      have : m = 0 ∨ m = 1 := by simp at hm; omega
      rcases this with rfl | rfl <;> rfl
    have ok : DkOk n { d with p := [(i, fillB a), (k, fillB b)] } := ⟨h.l, h.t, h.b, fun x hx => by
      simp only [List.mem_cons, List.not_mem_nil, or_false] at hx
      rcases hx with rfl | rfl
      · exact ⟨hi, fill_len a⟩
      · exact ⟨hk, fill_len b⟩, h.f⟩
    rw [e, at_lays _ ok ok.p]
    by_cases q : k = j
    · subst q; simp [dkLast]
    · rw [if_neg q]
      by_cases q2 : i = j
      · subst q2; simp [dkLast, q]
      · simp only [dkLast, if_neg q, if_neg q2]
        exact at_same rfl rfl j
/-- Writes of two sectors may be done in either order. -/
theorem either_order {n : Nat} {d : Dk} (h : DkOk n d) {i k : Nat} (hi : i < n) (hk : k < n) (a b : UInt8) (keep : Bool) (j : Nat) (hj : j < n) (hik : i ≠ k ∨ keep = false) :
    dkRead (dkCrash { d with p := [(i, fillB a), (k, fillB b)] } [keep, keep] (-1)) (j : Int) = dkRead (dkCrash { d with p := [(k, fillB b), (i, fillB a)] } [keep, keep] (-1)) (j : Int) := by
  have ok1 : DkOk n { d with p := [(i, fillB a), (k, fillB b)] } := ⟨h.l, h.t, h.b, fun x hx => by
      simp only [List.mem_cons, List.not_mem_nil, or_false] at hx
      rcases hx with rfl | rfl
      · exact ⟨hi, fill_len a⟩
      · exact ⟨hk, fill_len b⟩, h.f⟩
  have ok2 : DkOk n { d with p := [(k, fillB b), (i, fillB a)] } := ⟨h.l, h.t, h.b, fun x hx => by
      simp only [List.mem_cons, List.not_mem_nil, or_false] at hx
      rcases hx with rfl | rfl
      · exact ⟨hk, fill_len b⟩
      · exact ⟨hi, fill_len a⟩, h.f⟩
  rw [read_at (ok1.crash _ _) rfl hj, read_at (ok2.crash _ _) rfl hj, at_two h hi hk, at_two h hk hi]
  rcases hik with q | q
  · by_cases q1 : k = j
    · have : ¬ i = j := by omega
      simp [q1, this]
    · simp [q1]
  · simp [q]
theorem second_stays {n : Nat} {d : Dk} (h : DkOk n d) {i k : Nat} (hi : i < n) (hk : k < n) (a b : UInt8) : dkRead (dkCrash { d with p := [(i, fillB a), (k, fillB b)] } [true, true] (-1)) (k : Int) = (fillB b, 0) := by
  have ok1 : DkOk n { d with p := [(i, fillB a), (k, fillB b)] } := ⟨h.l, h.t, h.b, fun x hx => by
      simp only [List.mem_cons, List.not_mem_nil, or_false] at hx
      rcases hx with rfl | rfl
      · exact ⟨hi, fill_len a⟩
      · exact ⟨hk, fill_len b⟩, h.f⟩
  rw [read_at (ok1.crash _ _) rfl hk, at_two h hi hk]
  simp

end Go.Proofs.Ytpdedeaejlkokaa
