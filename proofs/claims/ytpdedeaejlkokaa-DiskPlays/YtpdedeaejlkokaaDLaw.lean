/-
  A disk in a law: all that the laws keep of it, and every call of it in these words.
-/
import Derived.Test.YtpdedeaejlkokaaDOps2
import Derived.Test.YtpdedeaejlkokaaDGreat
namespace Go.Proofs.Ytpdedeaejlkokaa
open Go.RowKit

/-- A disk that a law has made: w is the law's own world, B where the disk's blocks begin, n its sectors, k a bound of what is pending. -/
structure DV (w : World) (B n k : Nat) (d : Dk) (g : Nat) (O : Nat → Prop) (v : World) : Prop where
  di : DI B O d g v
  bl : Below w.heap.size w v
  hB : w.heap.size ≤ B
  hv : B ≤ v.heap.size
  ok : DkOk n d
  pl : d.p.length ≤ k
  fl : d.f ≤ 9223372036854775807
theorem DV.below {w : World} {B n k : Nat} {d : Dk} {g : Nat} {O : Nat → Prop} {v v' : World} (H : DV w B n k d g O v) (hb : Below v.heap.size v v') : DV w B n k d g O v' :=
  ⟨H.di.below hb, chain H.bl hb, H.hB, Nat.le_trans H.hv hb.size, H.ok, H.pl, H.fl⟩
theorem DV.kept {w : World} {B n k : Nat} {d : Dk} {g : Nat} {O O' : Nat → Prop} {v v' : World} {B' : Nat} (H : DV w B n k d g O v) (hk : Kept B' O' v v') (hB : w.heap.size ≤ B') (ho : ∀ b, O b → ¬ O' b) : DV w B n k d g O v' :=
  ⟨H.di.kept hk ho, H.bl.trans (hk.1.mono hB), H.hB, Nat.le_trans H.hv hk.1.size, H.ok, H.pl, H.fl⟩
theorem DV.up {w : World} {B n k k' : Nat} {d : Dk} {g : Nat} {O : Nat → Prop} {v : World} (H : DV w B n k d g O v) (h : k ≤ k') : DV w B n k' d g O v := ⟨H.di, H.bl, H.hB, H.hv, H.ok, Nat.le_trans H.pl h, H.fl⟩
/-- A call has done this. -/
def DN (w : World) (B n k : Nat) (d : Dk) (g : Nat) (O : Nat → Prop) (v : World) (r : Value) (e : Ending) (v' : World) : Prop :=
  e = .returned r ∧ ∃ O' : Nat → Prop, DV w B n k d g O' v' ∧ Kept B O v v' ∧ ∀ b, O' b → O b ∨ v.heap.size ≤ b
theorem DN.of {w : World} {B n k : Nat} {d d' : Dk} {g : Nat} {O : Nat → Prop} {v v' : World} {r : Value} {e : Ending} {k' : Nat} (H : DV w B n k' d' g O v) (h : DTo B O g d r v e v') (ok : DkOk n d) (hp : d.p.length ≤ k) (hf : d.f ≤ 9223372036854775807) : DN w B n k d g O v r e v' :=
  ⟨h.1, Grow O v v', ⟨h.2.1, H.bl.trans (h.2.2.1.mono H.hB), H.hB, Nat.le_trans H.hv h.2.2.1.size, ok, hp, hf⟩, h.2.2, fun _ q => grow_old q⟩
/-- The same, seen from a world ahead. -/
theorem DN.from {w : World} {B n k k' : Nat} {d d' : Dk} {g : Nat} {O : Nat → Prop} {v0 v v' : World} {r : Value} {e : Ending} (H : DV w B n k' d' g O v0) (hb : Below v0.heap.size v0 v) (h : DN w B n k d g O v r e v') : DN w B n k d g O v0 r e v' := by
  obtain ⟨h1, O', h2, h3, h4⟩ := h
  exact ⟨h1, O', h2, (Kept.below hb H.hv).next h3 fun b q => Or.inl q, fun b q => (h4 b q).imp id fun z => Nat.le_trans hb.size z⟩

theorem tick_le (d : Dk) : (dkTick d).f ≤ max d.f 0 := by rw [tick_f]; split <;> omega
theorem lays_f (p : List (Nat × List UInt8)) : ∀ d : Dk, (p.foldl dkLay d).f = d.f := by
  induction p with
  | nil => exact fun _ => rfl
  | cons x p ih => exact fun d => ih _
theorem write_pl (d : Dk) (i : Int) (b : List UInt8) : (dkWrite d i b).1.p.length ≤ d.p.length + 1 := by
  unfold dkWrite
  split
  · simp
  · split
    · rw [tick_p]; omega
    · split
      · rw [tick_p]; omega
      · simp
theorem write_fl (d : Dk) (i : Int) (b : List UInt8) : (dkWrite d i b).1.f ≤ max d.f 0 := by
  unfold dkWrite
  split
  · show d.f ≤ _; omega
  · split
    · exact tick_le d
    · split
      · exact tick_le d
      · exact tick_le d
theorem sync_pl (d : Dk) : (dkSync d).1.p.length ≤ d.p.length := by
  unfold dkSync; split <;> simp
theorem sync_fl (d : Dk) : (dkSync d).1.f ≤ max d.f 0 := by
  unfold dkSync
  split
  · show d.f ≤ _; omega
  · show (d.p.foldl dkLay (dkTick d)).f ≤ _
    rw [lays_f]; exact tick_le d
theorem do_pl (d : Dk) (o : Dop) : (dkDo d o).1.p.length ≤ d.p.length + 1 := by
  unfold dkDo
  split
  · exact write_pl _ _ _
  · split
    · have := sync_pl d; omega
    · split
      · show d.p.length ≤ _; omega
      · split
        · simp [dkCrash]
        · exact write_pl _ _ _
theorem do_fl (d : Dk) (o : Dop) (hd : d.f ≤ 9223372036854775807) (ho : o.n ≤ 9223372036854775807) : (dkDo d o).1.f ≤ 9223372036854775807 := by
  unfold dkDo
  split
  · have := write_fl d o.a o.b; omega
  · split
    · have := sync_fl d; omega
    · split
      · show max o.n (-1) ≤ _; omega
      · split
        · show (-1 : Int) ≤ _; decide
        · have := write_fl d o.a (fillB o.c); omega

theorem dv_new {w v : World} (m : Nat) (hm : m ≤ 4096) (hb : Below w.heap.size w v) : Calls Try.prog 12 #[.int .i64 (m : Int)] v fun e v' => ∃ g O, e = .returned (.pointer (some ⟨g, 0, none⟩)) ∧ DV w v.heap.size m 0 (dkNew m) g O v' ∧ Below v.heap.size v v' :=
  (new15_yes m hm v).mono fun e v' h => by
    obtain ⟨g, O, h1, h2, h3⟩ := h
    exact ⟨g, O, h1, ⟨h2, chain hb h3, hb.size, h3.size, dk_new m, Nat.le_refl _, by show (-1 : Int) ≤ _; decide⟩, h3⟩
theorem dv_pend {w : World} {B n k : Nat} {d : Dk} {g : Nat} {O : Nat → Prop} {v : World} (H : DV w B n k d g O v) :
    Calls Try.prog 16 #[.pointer (some ⟨g, 0, none⟩)] v fun e v' => e = .returned (.int .i64 (d.p.length : Int)) ∧ Below v.heap.size v v' := pend15 B O g d v H.di
theorem dv_sect {w : World} {B n k : Nat} {d : Dk} {g : Nat} {O : Nat → Prop} {v : World} (H : DV w B n k d g O v) :
    Calls Try.prog 18 #[.pointer (some ⟨g, 0, none⟩)] v fun e v' => e = .returned (.int .i64 (n : Int)) ∧ Below v.heap.size v v' := by
  have := sect15 B O g d v H.di
  rw [H.ok.l] at this
  exact this
theorem dv_read {w : World} {B n k : Nat} {d : Dk} {g : Nat} {O : Nat → Prop} {v : World} (H : DV w B n k d g O v) (i : Int) (hn : n ≤ 5000) (hk : k ≤ 100000) :
    Calls Try.prog 19 #[.pointer (some ⟨g, 0, none⟩), .int .i64 i] v (BTo (dkRead d i) v) := read15 B O g n d i v H.di H.ok hn (Nat.le_trans H.pl hk)
theorem dv_fuse {w : World} {B n k : Nat} {d : Dk} {g : Nat} {O : Nat → Prop} {v : World} (H : DV w B n k d g O v) (m : Int) (hm : m ≤ 9223372036854775807) :
    Calls Try.prog 25 #[.pointer (some ⟨g, 0, none⟩), .int .i64 m] v (DN w B n k (dkFuse d m) g O v (.tuple #[])) :=
  (fuse15 B O g d m v H.di).mono fun _ _ h => DN.of H h (H.ok.fuse m) H.pl (by show max m (-1) ≤ _; omega)
theorem dv_sync {w : World} {B n k : Nat} {d : Dk} {g : Nat} {O : Nat → Prop} {v : World} (H : DV w B n k d g O v) (hn : n ≤ 5000) (hk : k ≤ 100000) :
    Calls Try.prog 21 #[.pointer (some ⟨g, 0, none⟩)] v (DN w B n k (dkSync d).1 g O v (.int .i64 (dkSync d).2)) :=
  (sync15 B O g n d v H.di H.hv H.ok hn (Nat.le_trans H.pl hk) H.fl).mono fun _ _ h => DN.of H h H.ok.sync (Nat.le_trans (sync_pl d) H.pl) (by have := sync_fl d; have := H.fl; omega)
/-- A crash, with a row that the law was handed, or none. -/
theorem dv_crash {w : World} {B n k : Nat} {d : Dk} {g : Nat} {O : Nat → Prop} {v : World} (H : DV w B n k d g O v) (keep : List Bool) (torn : Int) (Y : Option Addr) (nY cY : Nat) (hn : n ≤ 5000) (hk : k ≤ 100000) (hy : Rg qcells v Y keep) (ly : nY = keep.length) (hY : 0 < keep.length → ∀ a, Y = some a → ¬ O a.block) :
    Calls Try.prog 22 #[.pointer (some ⟨g, 0, none⟩), .slice Y nY cY, .int .i64 torn] v (DN w B n 0 (dkCrash d keep torn) g O v (.tuple #[])) :=
  (crash15 B O g n d keep torn Y nY cY v H.di H.hv H.ok hn (Nat.le_trans H.pl hk) hy ly hY).mono fun _ _ h => DN.of H h (H.ok.crash keep torn) (by simp [dkCrash]) (by show (-1 : Int) ≤ _; decide)
/-- A write of bytes that were made behind world v0. -/
theorem dv_write {w : World} {B n k : Nat} {d : Dk} {g : Nat} {O : Nat → Prop} {v0 v : World} (H : DV w B n k d g O v0) (hb : Below v0.heap.size v0 v) (i : Int) (A : Option Addr) (m c : Nat) (l : List UInt8) (hn : n ≤ 5000) (hk : k + 1 ≤ 100000) (hr : Rg bcells v A l) (hm : m = l.length) (hA : ∀ a, A = some a → v0.heap.size ≤ a.block) :
    Calls Try.prog 23 #[.pointer (some ⟨g, 0, none⟩), .int .i64 i, .slice A m c] v (DN w B n (k + 1) (dkWrite d i l).1 g O v0 (.int .i64 (dkWrite d i l).2)) := by
  have H1 := H.below hb
  refine (write15 B O g d i A m c l v H1.di H1.hv hr hm (fun _ a e q => ?_) ⟨by rw [H.ok.l]; exact hn, by have := H.pl; omega⟩ ⟨H.ok.f, H.fl⟩).mono fun _ _ h => DN.from H hb (DN.of H1 h (H.ok.write i l) (by have := write_pl d i l; have := H.pl; omega) (by have := write_fl d i l; have := H.fl; omega))
  have := hA a e
  have := (H.di.lt _ q).2
  omega
/-- A call of a script. -/
theorem dv_do {w : World} {B n k : Nat} {d : Dk} {g : Nat} {O : Nat → Prop} {v : World} (H : DV w B n k d g O v) (o : Dop) (hb hq : Hd) (hn : n ≤ 5000) (hk : k + 1 ≤ 100000) (h1 : HB w hb o.b) (h2 : HQ w hq o.k) (ho : o.n ≤ 9223372036854775807) :
    Calls Try.prog 14 #[.pointer (some ⟨g, 0, none⟩), .agg #[.int .i64 o.w, .int .i64 o.a, .int .u8 (bz o.c), .slice hb.a hb.n hb.c, .int .i64 o.n, .slice hq.a hq.n hq.c]] v (DN w B n (k + 1) (dkDo d o).1 g O v (.int .i64 (dkDo d o).2)) := by
  refine (do15 B O g n d o hb.a hq.a hb.n hb.c hq.n hq.c v H.di H.hv H.ok hn (by have := H.pl; omega) H.fl (h1.2.2.below H.bl) h1.1 (fun q a e z => ?_) (h2.2.2.below H.bl) h2.1 (fun q a e z => ?_)).mono fun _ _ h => DN.of H h (H.ok.do' o) (by have := do_pl d o; have := H.pl; omega) (do_fl d o H.fl ho)
  · have := rg_low h1.2.2 q a e
    have := (H.di.lt _ z).1
    have := H.hB
    omega
  · have := rg_low h2.2.2 q a e
    have := (H.di.lt _ z).1
    have := H.hB
    omega

/-- A script in memory, as the laws are handed it. -/
structure Scr (w : World) (A : Option Addr) (n c : Nat) (os : List Dop) : Prop where
  r : OpR w A os
  l : n = os.length
  b : ∀ o ∈ os, o.n ≤ 9223372036854775807
/-- A variable of a script's call. -/
def opcells (o : Dop) (hb hq : Hd) : Array Value := #[.int .i64 o.w, .int .i64 o.a, .int .u8 (bz o.c), .slice hb.a hb.n hb.c, .int .i64 o.n, .slice hq.a hq.n hq.c]
theorem opv_cells {w : World} {b : Nat} {o : Dop} {hb hq : Hd} (h : w.heap[b]? = some (.cells (opcells o hb hq) 34 (0, 0))) :
    w.cell? ⟨b, 0, none⟩ = some (.int .i64 o.w) ∧ w.cell? ⟨b, 1, none⟩ = some (.int .i64 o.a) ∧ w.cell? ⟨b, 2, none⟩ = some (.int .u8 (bz o.c)) ∧ w.cell? ⟨b, 3, none⟩ = some (.slice hb.a hb.n hb.c) ∧ w.cell? ⟨b, 4, none⟩ = some (.int .i64 o.n) ∧ w.cell? ⟨b, 5, none⟩ = some (.slice hq.a hq.n hq.c) := by
  refine ⟨?_, ?_, ?_, ?_, ?_, ?_⟩ <;> (rw [Lib.cell_of_heap h]; rfl)
/-- A call of a script, its cells in a later world. -/
theorem Scr.at {w : World} {A : Option Addr} {n c : Nat} {os : List Dop} (H : Scr w A n c os) {k : Nat} (hk : k < n) : ∃ o, os[k]? = some o ∧ o.n ≤ 9223372036854775807 ∧
    ∃ b off hb hq, A = some ⟨b, off, none⟩ ∧ HB w hb o.b ∧ HQ w hq o.k ∧ ∀ v, Below w.heap.size w v → v.cell? ⟨b, off + k * 6, none⟩ = some (.int .i64 o.w) ∧ v.cell? ⟨b, off + k * 6 + 1, none⟩ = some (.int .i64 o.a) ∧ v.cell? ⟨b, off + k * 6 + 2, none⟩ = some (.int .u8 (bz o.c)) ∧ v.cell? ⟨b, off + k * 6 + 3, none⟩ = some (.slice hb.a hb.n hb.c) ∧ v.cell? ⟨b, off + k * 6 + 4, none⟩ = some (.int .i64 o.n) ∧ v.cell? ⟨b, off + k * 6 + 5, none⟩ = some (.slice hq.a hq.n hq.c) := by
  have go := List.getElem?_eq_getElem (show k < os.length by rw [← H.l]; exact hk)
  obtain ⟨bk, off, hb, hq, rfl, lt, q0, q1, q2, q3, q4, q5, HB1, HQ1⟩ := H.r.at go
  refine ⟨_, go, H.b _ (List.mem_of_getElem? go), bk, off, hb, hq, rfl, HB1, HQ1, fun v hv => ?_⟩
  have cc : ∀ r, v.cell? ⟨bk, r, none⟩ = w.cell? ⟨bk, r, none⟩ := fun r => hv.cell (p := ⟨bk, r, none⟩) lt
  exact ⟨(cc _).trans q0, (cc _).trans q1, (cc _).trans q2, (cc _).trans q3, (cc _).trans q4, (cc _).trans q5⟩

/-- Bytes in memory that are none of a disk's. -/
def KR (O : Nat → Prop) (v : World) (A : Option Addr) (l : List UInt8) : Prop := Rg bcells v A l ∧ (0 < l.length → ∀ a, A = some a → ¬ O a.block)
theorem KR.below {O : Nat → Prop} {v v' : World} {A : Option Addr} {l : List UInt8} (H : KR O v A l) (hb : Below v.heap.size v v') : KR O v' A l := ⟨H.1.below hb, H.2⟩
theorem KR.next {B : Nat} {O O' : Nat → Prop} {v v' : World} {A : Option Addr} {l : List UInt8} (H : KR O v A l) (hk : Kept B O v v') (ho : ∀ b, O' b → O b ∨ v.heap.size ≤ b) : KR O' v' A l := by
  refine ⟨H.1.kept fun b off e h0 => ?_, fun h0 a ha q => ?_⟩
  · exact hk.2 b (rg_low H.1 h0 ⟨b, off, none⟩ e) (H.2 h0 _ e)
  · rcases ho _ q with z | z
    · exact H.2 h0 a ha z
    · have := rg_low H.1 h0 a ha
      omega
theorem KR.new {w : World} {B n k : Nat} {d : Dk} {g : Nat} {O : Nat → Prop} {v v' : World} {A : Option Addr} {l : List UInt8} (H : DV w B n k d g O v) (hr : Rg bcells v' A l) (hA : ∀ a, A = some a → v.heap.size ≤ a.block) : KR O v' A l :=
  ⟨hr, fun _ a ha q => by have := hA a ha; have := (H.di.lt _ q).2; omega⟩
/-- What is read twice is the same text. -/
theorem tx_same_yes (l : List UInt8) : ((tx l).toList == (tx l).toList) = true := by simp
theorem sync_two (d : Dk) : (dkSync d).2 = 0 ∨ (dkSync d).2 = 42 := by unfold dkSync; split <;> simp

/-- A row of one's own that is none of a disk's. -/
def OW (O : Nat → Prop) (v : World) (T : Nat) (x : Value) (n : Nat) (xs : List Value) : Prop := ∃ b0, v.ownsRow b0 T 1 x n xs ∧ ∀ b, x.ownBlock = some b → ¬ O b
theorem OW.below {O : Nat → Prop} {v v' : World} {T n : Nat} {x : Value} {xs : List Value} (H : OW O v T x n xs) (hb : Below v.heap.size v v') : OW O v' T x n xs := by
  obtain ⟨b0, h1, h2⟩ := H
  exact ⟨b0, own_belowE h1 hb, h2⟩
theorem OW.next {B : Nat} {O O' : Nat → Prop} {v v' : World} {T n : Nat} {x : Value} {xs : List Value} (H : OW O v T x n xs) (hk : Kept B O v v') (ho : ∀ b, O' b → O b ∨ v.heap.size ≤ b) : OW O' v' T x n xs := by
  obtain ⟨b0, h1, h2⟩ := H
  refine ⟨b0, own_stay h1 fun b q => hk.2 b (World.ownsRow.lt h1 b q).2 (h2 b q), fun b q z => ?_⟩
  rcases ho b z with z | z
  · exact h2 b q z
  · have := (World.ownsRow.lt h1 b q).2
    omega
theorem OW.cell {O : Nat → Prop} {v : World} {T n : Nat} {x : Value} {xs : List Value} (H : OW O v T x n xs) (h0 : 0 < n) : ∃ g c, x = .slice (some ⟨g, 0, none⟩) n c ∧ ∀ (j : Nat) (u : Value), xs[j]? = some u → v.cell? ⟨g, j, none⟩ = some u := by
  obtain ⟨b0, h1, _⟩ := H
  obtain ⟨g, c, rfl, _, _⟩ := World.ownsRow.form h1 h0
  refine ⟨g, c, rfl, fun j u hu => ?_⟩
  have hj := (List.getElem?_eq_some_iff.1 hu).1
  rw [World.ownsRow.cellAt h1 j (by have := h1.1; omega), hu]

/-- A row that lies above all that a disk has has grown. -/
theorem DV.grew {w : World} {B n k b0 : Nat} {d : Dk} {g : Nat} {O : Nat → Prop} {v v' : World} {r : Option Nat} (H : DV w B n k d g O v) (hO : ∀ b, O b → b < b0) (hw : w.heap.size ≤ b0) (hv : b0 ≤ v.heap.size) (hg : v.grownBy v' r) (hr : ∀ k, r = some k → b0 ≤ k) : DV w B n k d g O v' :=
  ⟨H.di.stay hg.size fun b q => hg.block b (H.di.lt b q).2 (fun e => by have := hr b e.symm; have := hO b q; omega), H.bl.grown hg (Nat.le_trans hw hv) (fun k hk => Nat.le_trans hw (hr k hk)), H.hB, Nat.le_trans H.hv hg.size, H.ok, H.pl, H.fl⟩

end Go.Proofs.Ytpdedeaejlkokaa
