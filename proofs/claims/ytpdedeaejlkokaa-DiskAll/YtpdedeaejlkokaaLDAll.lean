/-
  DiskAll: the walk.
-/
import Derived.Test.YtpdedeaejlkokaaDLaw
import Derived.Deep.QuietTactic
import Derived.BigQuiet
namespace Go.Proofs.Ytpdedeaejlkokaa
open Go.RowKit

def strs (d : Dk) (i : Nat) : List Value := (List.range i).map fun (j : Nat) => Value.string (tx (dkRead d (j : Int)).1)
def errs (d : Dk) (i : Nat) : List Value := (List.range i).map fun (j : Nat) => Value.int .i64 (dkRead d (j : Int)).2
theorem strs_next (d : Dk) (i : Nat) : strs d (i + 1) = strs d i ++ [Value.string (tx (dkRead d (i : Int)).1)] := by unfold strs; rw [List.range_succ, List.map_append]; rfl
theorem errs_next (d : Dk) (i : Nat) : errs d (i + 1) = errs d i ++ [Value.int .i64 (dkRead d (i : Int)).2] := by unfold errs; rw [List.range_succ, List.map_append]; rfl
theorem strs_get (d : Dk) {i k : Nat} (h : i < k) : (strs d k)[i]? = some (Value.string (tx (dkRead d (i : Int)).1)) := by unfold strs; rw [List.getElem?_map, List.getElem?_range h]; rfl
theorem errs_get (d : Dk) {i k : Nat} (h : i < k) : (errs d k)[i]? = some (Value.int .i64 (dkRead d (i : Int)).2) := by unfold errs; rw [List.getElem?_map, List.getElem?_range h]; rfl
theorem Try.infoAll15 : (Try.prog.info? 9).map (fun i => (i.zero, i.size, i.bytes)) = some (some (.string ByteArray.empty), 1, 16) := by kernel_rfl
theorem Try.infoE : (Try.prog.info? 29).map (fun i => (i.zero, i.size, i.bytes)) = some (some (.int .i64 0), 1, 8) := by kernel_rfl
theorem Try.infoQ : (Try.prog.info? 4).map (fun i => (i.zero, i.size, i.bytes)) = some (some (.bool false), 1, 1) := by kernel_rfl
theorem OW.grow {O : Nat → Prop} {v v1 v2 : World} {T T' n m : Nat} {x y : Value} {xs ys : List Value} {B : Nat} (H : OW O v T x n xs) (h1 : Below v.heap.size v v1) (K : v1.ownsRow B T' 1 y m ys) (hT : T ≠ T') (hg : v1.grownBy v2 y.ownBlock) : OW O v2 T x n xs := by
  obtain ⟨b0, h2, h3⟩ := H
  refine ⟨b0, own_stay (own_belowE h2 h1) fun b q => hg.block b (World.ownsRow.lt (own_belowE h2 h1) b q).2 (fun e => own_two (own_belowE h2 h1) K hT q e.symm rfl), h3⟩

set_option maxHeartbeats 8000000 in
set_option maxRecDepth 100000 in
theorem law_dall (A : Option Addr) (n c : Nat) (os : List Dop) (w : World) (H : Scr w A n c os) : Calls Try.prog 6 #[.slice A n c] w fun e w' => e = .returned (.bool true) ∧ Below w.heap.size w w' := by
  have HS := Lib.hid H
  clear H
  go_enter Try.func6, Try.ntmps6
  go_wp2_with fail
  refine (head15 _).mono ?_
  rintro e w1 ⟨rfl, hb⟩
  have B1 := Lib.hid hb
  clear hb
  go_wp2_with fail
  refine (dv_new 6 (by decide) B1.out).mono ?_
  rintro e w2 ⟨g, O, rfl, hD, _⟩
  have D2 := Lib.hid hD
  clear hD
  go_wp2_with fail
  refine (great15 A n c os _ (HS.out.r.below D2.out.bl) HS.out.l).mono ?_
  rintro e w3 ⟨b, rfl, hg, hb⟩
  have D3 := Lib.hid (D2.out.below hb)
  have HG := Lib.hid hg
  clear hb hg D2
  cases b with
  | true =>
    go_wp2_with fail
    go_ret
    exact ⟨rfl, D3.out.bl⟩
  | false =>
    have FT := Lib.hid (HG.out rfl)
    have n3 : n ≤ 300 := by rw [HS.out.l]; exact FT.out.1
    go_wp2_with fail
    go_loopg [5] n (fun gh s5 wx => ∃ (i : Nat) (d : Dk) (O : Nat → Prop), i ≤ n ∧ Hid (gh = n - i) ∧ s5 = .int .i64 (i : Int) ∧ Hid (DV w w1.heap.size 6 i d g O wx))
    case atStart => exact ⟨0, _, _, Nat.zero_le _, by show _ = _; omega, rfl, D3⟩
    case round =>
      obtain ⟨i, d, O5, hi, HGG, rfl, DK⟩ := hrel
      by_cases kn : i < n
      · have ki : (i : Int) < (n : Int) := by omega
        have k0 : (0 : Int) ≤ (i : Int) := by omega
        obtain ⟨o, _, ob, bk, off, hb, hq, rfl, HB1, HQ1, cc⟩ := HS.out.at kn
        obtain ⟨c0, c1, c2, c3, c4, c5⟩ := cc wr DK.out.bl
        have OB := Lib.hid ob; have HBH := Lib.hid HB1; have HQH := Lib.hid HQ1; have KN := Lib.hid kn
        clear cc HB1 HQ1 ob kn
        go_wp2_with fail
        refine (dv_do DK.out o hb hq (by decide) (by omega) HBH.out HQH.out OB.out).mono ?_
        rintro e w5 ⟨rfl, O6, hD, _, _⟩
        have D5 := Lib.hid hD
        clear hD DK c0 c1 c2 c3 c4 c5
        go_wp2_with fail
        go_roundg (n - (i + 1))
        case measure => have := HGG.out; have := KN.out; omega
        case rel => exact ⟨i + 1, _, O6, by have := KN.out; omega, rfl, by go_num, D5⟩
      · obtain rfl : i = n := by omega
        clear kn hi
        obtain ⟨b0, hb0⟩ : ∃ b0, b0 = wr.heap.size := ⟨_, rfl⟩
        have L0 : Hid (∀ b, O5 b → b < b0) := fun b q => by rw [hb0]; exact (DK.out.di.lt b q).2
        have WB : Hid (w.heap.size ≤ b0) := by show _ ≤ _; rw [hb0]; exact DK.out.bl.size
        have BS : Hid (b0 ≤ wr.heap.size) := Nat.le_of_eq hb0
        clear hb0
        go_wp2_with fail
        go_loopg [6, 7, 8] 6 (fun gh s6 s7 s8 wx => ∃ (q : Nat), q ≤ 6 ∧ Hid (gh = 6 - q) ∧ s8 = .int .i64 (q : Int) ∧ Hid (DV w w1.heap.size 6 i d g O5 wx) ∧ Hid (b0 ≤ wx.heap.size) ∧ Hid (wx.ownsRow b0 9 1 s6 q (strs d q)) ∧ Hid (wx.ownsRow b0 29 1 s7 q (errs d q)))
        case atStart => exact ⟨0, Nat.zero_le _, by show _ = _; omega, rfl, DK, BS, World.ownsRow_nil _ _ _ _, World.ownsRow_nil _ _ _ _⟩
        case round =>
          obtain ⟨q, hq6, HGG, rfl, DK, BS, RS, RE⟩ := hrel
          by_cases kn : q < 6
          · have ki : (q : Int) < 6 := by omega
            have k0 : (0 : Int) ≤ (q : Int) := by omega
            obtain ⟨R, hR⟩ : ∃ R, R = dkRead d (q : Int) := ⟨_, rfl⟩
            have S1 := Lib.hid (strs_next d q)
            have S2 := Lib.hid (errs_next d q)
            have CR := Lib.hid (dv_read DK.out (q : Int) (by decide) (by omega))
            rw [← hR] at S1 S2 CR
            have KN := Lib.hid kn
            clear hR kn
            go_wp2_with fail
            refine CR.out.mono ?_
            rintro e w6 ⟨Ay, ny, cy, rfl, h1, h2, hb6, h3, h4, h5⟩
            have D6 := Lib.hid (DK.out.below hb6)
            have B6 := Lib.hid (Nat.le_trans BS.out hb6.size)
            have RS6 := Lib.hid (own_belowE RS.out hb6)
            have RE6 := Lib.hid (own_belowE RE.out hb6)
            have ty := text_of (c := cy) h2 h1
            obtain ⟨i1, hi1, hz0, hz1, hz2⟩ := info_parts Try.infoAll15
            obtain ⟨i2, hi2, hy0, hy1, hy2⟩ := info_parts Try.infoE
            have b6 := B6.out
            clear h1 h2 hb6 h3 h4 h5 DK RS RE CR BS
            go_wp2_with (at_builtin; refine wpList_append_own _ rfl _ _ 47 rfl b0 9 i1 (.string ByteArray.empty) 1 16 Try.underlying47 hi1 hz0 hz1 hz2 rfl (by decide) _ _ _ rfl (own_belowE RS6.out (chain_alloc (Below.refl _ _) _)) ⟨w6.heap.size, 0, none⟩ 1 1 [Value.string (tx R.1)] rfl rfl ?c1 (by simp [Value.oneCell']) ?c3 ?c4 ?c5 ?_)
            case c1 => first | exact fun _ _ h => h | exact new_cells
            case c3 => unfold maxLen; omega
            case c4 => omega
            case c5 => first | omega | (simp; omega)
            intro v' w7 hown hgrow hcp
            clear hcp
            have RS7 : Hid (w7.ownsRow b0 9 1 v' (q + 1) (strs d (q + 1))) := by show World.ownsRow _ _ _ _ _ _ _; rw [S1.out]; exact hown
            have RE7 : Hid (w7.ownsRow b0 29 1 u7 q (errs d q)) := by
              have e := own_belowE RE6.out (chain_alloc (Below.refl _ w6) (.cells #[.string (tx R.1)] 9))
              have s := own_belowE RS6.out (chain_alloc (Below.refl _ w6) (.cells #[.string (tx R.1)] 9))
              exact own_stay e fun b z => hgrow.block b (World.ownsRow.lt e b z).2 (fun y => own_two e s (by decide) z y.symm rfl)
            have D7 : Hid (DV w w1.heap.size 6 i d g O5 w7) := by
              have s := own_belowE RS6.out (chain_alloc (Below.refl _ w6) (.cells #[.string (tx R.1)] 9))
              exact (D6.out.below (chain_alloc (Below.refl _ w6) (.cells #[.string (tx R.1)] 9))).grew L0.out WB.out (by rw [World.size_alloc]; omega) hgrow (fun k hk => (World.ownsRow.lt s k hk).1)
            have B7 : Hid (b0 ≤ w7.heap.size) := by have := hgrow.size; rw [World.size_alloc] at this; show b0 ≤ _; omega
            have b7 := B7.out
            clear hown hgrow RS6 RE6 D6 ty b6 B6
            go_wp2_with (at_builtin; refine wpList_append_own _ rfl _ _ 48 rfl b0 29 i2 (.int .i64 0) 1 8 Try.underlying48 hi2 hy0 hy1 hy2 rfl (by decide) _ _ _ rfl (own_belowE RE7.out (chain_alloc (Below.refl _ _) _)) ⟨w7.heap.size, 0, none⟩ 1 1 [Value.int .i64 R.2] rfl rfl ?c1 (by simp [Value.oneCell']) ?c3 ?c4 ?c5 ?_)
            case c1 => first | exact fun _ _ h => h | exact new_cells
            case c3 => unfold maxLen; omega
            case c4 => omega
            case c5 => first | omega | (simp; omega)
            intro v2 w8 hown hgrow hcp
            clear hcp
            have RE8 : Hid (w8.ownsRow b0 29 1 v2 (q + 1) (errs d (q + 1))) := by show World.ownsRow _ _ _ _ _ _ _; rw [S2.out]; exact hown
            have RS8 : Hid (w8.ownsRow b0 9 1 v' (q + 1) (strs d (q + 1))) := by
              have e := own_belowE RS7.out (chain_alloc (Below.refl _ w7) (.cells #[.int .i64 R.2] 29))
              have s := own_belowE RE7.out (chain_alloc (Below.refl _ w7) (.cells #[.int .i64 R.2] 29))
              exact own_stay e fun b z => hgrow.block b (World.ownsRow.lt e b z).2 (fun y => own_two e s (by decide) z y.symm rfl)
            have D8 : Hid (DV w w1.heap.size 6 i d g O5 w8) := by
              have s := own_belowE RE7.out (chain_alloc (Below.refl _ w7) (.cells #[.int .i64 R.2] 29))
              exact (D7.out.below (chain_alloc (Below.refl _ w7) (.cells #[.int .i64 R.2] 29))).grew L0.out WB.out (by rw [World.size_alloc]; omega) hgrow (fun k hk => (World.ownsRow.lt s k hk).1)
            have B8 : Hid (b0 ≤ w8.heap.size) := by have := hgrow.size; rw [World.size_alloc] at this; show b0 ≤ _; omega
            clear hown hgrow RS7 RE7 D7 B7 b7
            go_wp2_with fail
            go_roundg (6 - (q + 1))
            case measure => have := HGG.out; have := KN.out; omega
            case rel => exact ⟨q + 1, by have := KN.out; omega, rfl, by go_num, D8, B8, RS8, RE8⟩
          · obtain rfl : q = 6 := by omega
            have OS : Hid (OW O5 wr 9 u6 6 (strs d 6)) := ⟨b0, RS.out, fun b q z => by have := (World.ownsRow.lt RS.out b q).1; have := L0.out b z; omega⟩
            have OE : Hid (OW O5 wr 29 u7 6 (errs d 6)) := ⟨b0, RE.out, fun b q z => by have := (World.ownsRow.lt RE.out b q).1; have := L0.out b z; omega⟩
            have hmb : ∀ w : World, (Instr.makeSlice 32 (.int .i64 300) (.int .i64 300)).run Try.prog w = .ok (.slice (some ⟨w.heap.size, 0, none⟩) 300 300) (w.alloc (.cells (madeCells #[.bool false] 300) 4)) := fun w => by
              obtain ⟨i0, hi, hz0, hz1, hz2⟩ := info_parts Try.infoQ
              have := run_make (P := Try.prog) w 32 4 i0 _ Try.underlying32 hi hz0 .i64 .i64 300 300 (by omega) (Int.le_refl _) (by rw [hz2]; omega) (by omega)
              rw [hz1, Nat.mul_one] at this
              exact this
            have NK : Hid (¬ O5 wr.heap.size) := fun z => by have := (DK.out.di.lt _ z).2; omega
            have KO : Hid ((wr.alloc (.cells (madeCells #[.bool false] 300) 4)).ownsRow wr.heap.size 4 1 (.slice (some ⟨wr.heap.size, 0, none⟩) 300 300) 300 (madeCells #[.bool false] 300).toList) :=
              ⟨by rw [Array.length_toList, size_madeCells], .inr ⟨_, 300, _, rfl, Nat.le_refl _, heap_alloc_new wr _, Nat.le_refl _, by decide, size_madeCells _ _, List.take_of_length_le (by rw [Array.length_toList, size_madeCells]; decide)⟩⟩
            have WA := chain_alloc (Below.refl _ wr) (.cells (madeCells #[.bool false] 300) 4)
            have D6 := Lib.hid (DK.out.below WA)
            have OS6 := Lib.hid (OS.out.below WA)
            have OE6 := Lib.hid (OE.out.below WA)
            obtain ⟨bq, hbq⟩ : ∃ bq, bq = wr.heap.size := ⟨_, rfl⟩
            obtain ⟨wk, hwk⟩ : ∃ wk, wk = wr.alloc (.cells (madeCells #[.bool false] 300) 4) := ⟨_, rfl⟩
            rw [← hbq] at NK KO
            rw [← hwk] at D6 OS6 OE6 KO
            have BW : Hid (w.heap.size ≤ bq) := by show _ ≤ _; rw [hbq]; exact DK.out.bl.size
            have KX : Hid (∃ xs, wk.ownsRow bq 4 1 (.slice (some ⟨bq, 0, none⟩) 300 300) 300 xs ∧ ∀ j, j < 0 → xs[j]? = some (.bool true)) := ⟨_, KO.out, fun j h => absurd h (by omega)⟩
            have LS : Hid (∀ b, u6.ownBlock = some b → b < bq) := fun b z => by rw [hbq]; exact (World.ownsRow.lt RS.out b z).2
            have LE : Hid (∀ b, u7.ownBlock = some b → b < bq) := fun b z => by rw [hbq]; exact (World.ownsRow.lt RE.out b z).2
            have HGK := Lib.hid hbq; have HWK := Lib.hid hwk
            clear DK RS RE OS OE WA hbq hwk kn hq6 BS KO
            go_wp2_with fail
            rw [← HWK.out, ← HGK.out]
            go_loopg [12] 300 (fun gh s12 wx => ∃ (k : Nat), k ≤ 300 ∧ Hid (gh = 300 - k) ∧ s12 = .int .i64 (k : Int) ∧ Hid (DV w w1.heap.size 6 i d g O5 wx) ∧ Hid (OW O5 wx 9 u6 6 (strs d 6)) ∧ Hid (OW O5 wx 29 u7 6 (errs d 6)) ∧ Hid (∃ xs, wx.ownsRow bq 4 1 (.slice (some ⟨bq, 0, none⟩) 300 300) 300 xs ∧ ∀ j, j < k → xs[j]? = some (.bool true)))
            case atStart => exact ⟨0, Nat.zero_le _, by show _ = _; omega, rfl, D6, OS6, OE6, KX⟩
            case round =>
              obtain ⟨k, hk, HGG, rfl, DK, OS, OE, KX⟩ := hrel
              by_cases kn : k < 300
              · have ki : (k : Int) < 300 := by omega
                have k0 : (0 : Int) ≤ (k : Int) := by omega
                obtain ⟨xs, hx, hxx⟩ := KX.out
                have c0 := World.ownsRow.cellAt hx k (by omega)
                have hl := hx.1
                obtain ⟨u, hu⟩ : ∃ u, xs[k]? = some u := ⟨_, List.getElem?_eq_getElem (by omega)⟩
                rw [hu] at c0
                have f0 := World.ownsRow.frozenAt hx k
                have K2 : Hid (∃ xs, (wr.setCell ⟨bq, k, none⟩ (.bool true)).ownsRow bq 4 1 (.slice (some ⟨bq, 0, none⟩) 300 300) 300 xs ∧ ∀ j, j < k + 1 → xs[j]? = some (.bool true)) :=
                  ⟨_, (World.ownsRow.stored hx k (.bool true)).1, fun j hj => by
                    rw [List.getElem?_set]
                    by_cases e : k = j
                    · rw [if_pos e, if_pos (by omega)]
                    · rw [if_neg e]; exact hxx j (by omega)⟩
                have gw : wr.grownBy (wr.setCell ⟨bq, k, none⟩ (.bool true)) (some bq) := (World.ownsRow.stored hx k (.bool true)).2
                have D2 : Hid (DV w w1.heap.size 6 i d g O5 (wr.setCell ⟨bq, k, none⟩ (.bool true))) := by
                  have := DK.out
                  exact ⟨this.di.other NK.out _, this.bl.setCell (p := ⟨bq, k, none⟩) BW.out _, this.hB, by rw [World.size_setCell]; exact this.hv, this.ok, this.pl, this.fl⟩
                have S2 : Hid (OW O5 (wr.setCell ⟨bq, k, none⟩ (.bool true)) 9 u6 6 (strs d 6)) := by
                  obtain ⟨b1, h1, h2⟩ := OS.out
                  exact ⟨b1, own_stay h1 fun b z => Below.heap_setCell _ _ _ _ (fun e => by have := LS.out b z; have e : b = bq := e; omega), h2⟩
                have E2 : Hid (OW O5 (wr.setCell ⟨bq, k, none⟩ (.bool true)) 29 u7 6 (errs d 6)) := by
                  obtain ⟨b1, h1, h2⟩ := OE.out
                  exact ⟨b1, own_stay h1 fun b z => Below.heap_setCell _ _ _ _ (fun e => by have := LE.out b z; have e : b = bq := e; omega), h2⟩
                have KN := Lib.hid kn
                clear hx hxx hl hu gw kn DK OS OE KX
                go_wp2_with fail
                go_roundg (300 - (k + 1))
                case measure => have := HGG.out; have := KN.out; omega
                case rel => exact ⟨k + 1, by have := KN.out; omega, rfl, by go_num, D2, S2, E2, K2⟩
              · obtain rfl : k = 300 := by omega
                have KR3 : Hid (Rg qcells wr (some ⟨bq, 0, none⟩) (List.replicate 300 true)) := fun _ => by
                  obtain ⟨xs, hx, hxx⟩ := KX.out
                  refine ⟨bq, 0, rfl, (World.ownsRow.lt hx bq rfl).2, fun j v hv => ?_⟩
                  have hj := (List.getElem?_eq_some_iff.1 hv).1
                  rw [flat_len qcells_len, List.length_replicate] at hj
                  have e := flat_get qcells_len (List.replicate 300 true) j 0 true (by rw [List.getElem?_replicate, if_pos (by omega)]) (by decide)
                  rw [Nat.mul_one, Nat.add_zero, hv] at e
                  rw [Nat.zero_add, World.ownsRow.cellAt hx j (by omega), hxx j (by omega)]
                  exact e.symm
                have RA : Hid (∀ q : Int, dkRead (dkCrash (dkCrash d (List.replicate 300 true) (-1)) [] 0) q = dkRead d q) := fun q => by
                  rw [read_none (DK.out.ok.crash _ _) rfl, read_all DK.out.ok _ (fun j hj => by
                    have := DK.out.pl
                    rw [List.getD_eq_getElem?_getD, List.getElem?_replicate, if_pos (by omega)]; rfl)]
                clear kn KX hk
                go_wp2_with fail
                refine (dv_crash DK.out (List.replicate 300 true) (-1) (some ⟨bq, 0, none⟩) 300 300 (by decide) (by omega) KR3.out (by rw [List.length_replicate]) (fun _ a e z => by obtain rfl := Option.some.inj e; exact NK.out z)).mono ?_
                rintro e w5 ⟨rfl, O6, hD, hK, hO⟩
                have D7 := Lib.hid hD
                have OS7 := Lib.hid (OS.out.next hK hO)
                have OE7 := Lib.hid (OE.out.next hK hO)
                clear hD hK hO DK OS OE KR3
                go_wp2_with fail
                refine (dv_crash D7.out [] 0 none 0 0 (by decide) (by omega) (Rg.nil _ _ _) rfl (fun z => by simp at z)).mono ?_
                rintro e w6 ⟨rfl, O7, hD, hK, hO⟩
                have D8 := Lib.hid hD
                have OS8 := Lib.hid (OS7.out.next hK hO)
                have OE8 := Lib.hid (OE7.out.next hK hO)
                clear hD hK hO D7 OS7 OE7
                obtain ⟨d9, hd9⟩ : ∃ d9, d9 = dkCrash (dkCrash d (List.replicate 300 true) (-1)) [] 0 := ⟨_, rfl⟩
                rw [← hd9] at D8 RA
                clear hd9
                go_wp2_with fail
                go_loopg [13] 6 (fun gh s13 wx => ∃ (k : Nat), k ≤ 6 ∧ Hid (gh = 6 - k) ∧ s13 = .int .i64 (k : Int) ∧ Hid (DV w w1.heap.size 6 0 d9 g O7 wx) ∧ Hid (OW O7 wx 9 u6 6 (strs d 6)) ∧ Hid (OW O7 wx 29 u7 6 (errs d 6)))
                case atStart => exact ⟨0, Nat.zero_le _, by show _ = _; omega, rfl, D8, OS8, OE8⟩
                case round =>
                  obtain ⟨k, hk, HGG, rfl, DK, OS, OE⟩ := hrel
                  by_cases kn : k < 6
                  · have ki : (k : Int) < 6 := by omega
                    have k0 : (0 : Int) ≤ (k : Int) := by omega
                    obtain ⟨R, hR⟩ : ∃ R, R = dkRead d (k : Int) := ⟨_, rfl⟩
                    have G1 := strs_get d kn
                    have G2 := errs_get d kn
                    have CR := Lib.hid (dv_read DK.out (k : Int) (by decide) (by decide))
                    rw [RA.out, ← hR] at CR
                    rw [← hR] at G1 G2
                    obtain ⟨gs, cs, rfl, hs⟩ := OS.out.cell (by decide)
                    obtain ⟨ge, ce, rfl, he⟩ := OE.out.cell (by decide)
                    have z1 := hs k _ G1
                    have z2 := he k _ G2
                    have l1 := (World.ownsRow.lt OS.out.choose_spec.1 gs rfl).2
                    have l2 := (World.ownsRow.lt OE.out.choose_spec.1 ge rfl).2
                    have KN := Lib.hid kn
                    clear hR G1 G2 hs he kn
                    go_wp2_with fail
                    refine CR.out.mono ?_
                    rintro e w7 ⟨Ay, ny, cy, rfl, h1, h2, hb7, h3, h4, h5⟩
                    have D9 := Lib.hid (DK.out.below hb7)
                    have OS9 := Lib.hid (OS.out.below hb7)
                    have OE9 := Lib.hid (OE.out.below hb7)
                    have y1 := (hb7.cell (p := ⟨gs, k, none⟩) l1).trans z1
                    have y2 := (hb7.cell (p := ⟨ge, k, none⟩) l2).trans z2
                    have ty := fun m => text_of (c := cy) (h2.below (chain_drewN (Below.refl _ w7) m)) h1
                    have ne := tx_same_yes R.1
                    have ee : (R.2 != R.2) = false := by simp
                    clear h1 h2 hb7 h3 h4 h5 DK OS OE CR z1 z2 l1 l2
                    go_wp2_with fail
                    go_quiet (fail)
                    go_wp2_with fail
                    go_roundg (6 - (k + 1))
                    case measure => have := HGG.out; have := KN.out; omega
                    case rel => exact ⟨k + 1, by have := KN.out; omega, rfl, by go_num, Lib.hid (D9.out.below (chain_drewN (Below.refl _ w7) _)), Lib.hid (OS9.out.below (chain_drewN (Below.refl _ w7) _)), Lib.hid (OE9.out.below (chain_drewN (Below.refl _ w7) _))⟩
                  · obtain rfl : k = 6 := by omega
                    go_wp2_with fail
                    go_ret
                    exact ⟨rfl, DK.out.bl⟩

end Go.Proofs.Ytpdedeaejlkokaa
