/-
  Contract for the reference's Get: fields that are not right, fields that are refused. Conditions: the slice reads as fields.
-/
import Derived.Test.YtaldpioahnbkgaaFieldsPFill
import Derived.Test.YtaldpioahnbkgaaFieldsInts
import Derived.Test.YtaldpioahnbkgaaTlvRefIs
import Derived.OwnWalk
import Derived.IntWalk
namespace Go.Proofs.Ytaldpioahnbkgaa
set_option linter.unusedVariables false
open Go.ChangeShapes Go.WideShapes Go.ChangeAt Go.RowKit

set_option maxRecDepth 100000 in
set_option maxHeartbeats 1600000 in
theorem rfget_p1 (l : List Tf) (n : Nat) (hn : n = l.length) (E : Nat) (r : Rg) (hE : fdGet l = (E, r)) (A : Option Addr) (c : Nat) (w : World) (hA : Ts w w.heap.size l A c) (hi : isT 0 l = false) : Calls Try.prog 16 #[.slice A n c] w fun e w' => e = .returned (.tuple #[.agg #[.int .i64 r.t.ser, .int .i64 r.t.kind, .int .i64 r.t.frm, .int .i64 r.t.till, .int .i64 r.t.cls, .int .i64 r.t.card, .int .i64 r.t.seat, .int .i64 r.t.day, .int .i64 r.t.days, .int .i64 r.t.uses, .int .i64 r.t.epoch, .int .i64 r.key, .int .i64 r.left, .int .i64 r.inn, .int .i64 r.ver], .int .i64 (E : Int)]) ∧ Below w.heap.size w w' := by
  obtain ⟨rfl, rfl⟩ : E = 1 ∧ r = zeroR := by have := hE; rw [fdGet, if_pos hi] at this; exact ⟨(Prod.mk.inj this).1.symm, (Prod.mk.inj this).2.symm⟩
  clear hE
  have HN := Lib.hid hn
  have HA := Lib.hid hA
  have HI := Lib.hid hi
  clear hn hA hi
  have HR0 := Lib.hid (RBox.new w zeroR)
  have hl0 := below_lit w #[.int .i64 0, .int .i64 0, .int .i64 0, .int .i64 0, .int .i64 0, .int .i64 0, .int .i64 0, .int .i64 0, .int .i64 0, .int .i64 0, .int .i64 0, .int .i64 0, .int .i64 0, .int .i64 0, .int .i64 0] 27
  have HB0 := Lib.hid hl0
  have HA0 := Lib.hid (HA.out.next hl0)
  have h63 : n ≤ 9223372036854775807 := by have h1 := HA.out.len; have h2 := HA.out.cap; have h3 := HN.out; omega
  clear hl0
  go_enter Try.func16, Try.ntmps16
  go_wp2_with fail
  refine (refis_tlv l n HN.out false HI.out A c _ HA0.out).mono ?_
  rintro e w1 ⟨rfl, hb⟩
  have HR1 := Lib.hid (HR0.out.next hb)
  have HB1 := Lib.hid (HB0.out.trans (hb.mono HB0.out.size))
  have HA1 := Lib.hid (HA0.out.next hb)
  clear hb HR0 HB0 HA0
  go_wp2_with ((with_reducible refine at_store 2 ?_); refine wpList_store_named (o := ⟨none, .store 27 (.tmp 2) (.tmp 12), _, _, _, _⟩) rfl 27 (.tmp 2) (.tmp 12) rfl w.heap.size #[.int .i64 0, .int .i64 0, .int .i64 0, .int .i64 0, .int .i64 0, .int .i64 0, .int .i64 0, .int .i64 0, .int .i64 0, .int .i64 0, .int .i64 0, .int .i64 0, .int .i64 0, .int .i64 0, .int .i64 0] rfl rfl 27 #[.int .i64 0, .int .i64 0, .int .i64 0, .int .i64 0, .int .i64 0, .int .i64 0, .int .i64 0, .int .i64 0, .int .i64 0, .int .i64 0, .int .i64 0, .int .i64 0, .int .i64 0, .int .i64 0, .int .i64 0] HR1.out infoRd rfl (rg_one _ _ _ _ _ _ _ _ _ _ _ _ _ _ _) ?_)
  intro w9 hw9
  go_wp2
  refine bodyPost_ret (results_row_tmp' Try.results16 _ w9 w.heap.size 27 #[.int .i64 0, .int .i64 0, .int .i64 0, .int .i64 0, .int .i64 0, .int .i64 0, .int .i64 0, .int .i64 0, .int .i64 0, .int .i64 0, .int .i64 0, .int .i64 0, .int .i64 0, .int .i64 0, .int .i64 0] (0, 0) _ rfl (by rw [hw9.out]; exact setRow_heap _ _ _ _ _ _ HR1.out) Try.underlying27 rfl infoRd) rfl ⟨rfl, ?_⟩
  rw [hw9.out]
  exact below_setRow HB1.out (Nat.le_refl _) _
set_option maxRecDepth 100000 in
set_option maxHeartbeats 1600000 in
theorem rfget_p2 (l : List Tf) (n : Nat) (hn : n = l.length) (E : Nat) (r : Rg) (hE : fdGet l = (E, r)) (A : Option Addr) (c : Nat) (w : World) (hA : Ts w w.heap.size l A c) (hi : isT 0 l = true) (a : List Int) (F : Nat) (hf : fdFill z13 l = (F, a)) (h0 : F ≠ 0) : Calls Try.prog 16 #[.slice A n c] w fun e w' => e = .returned (.tuple #[.agg #[.int .i64 r.t.ser, .int .i64 r.t.kind, .int .i64 r.t.frm, .int .i64 r.t.till, .int .i64 r.t.cls, .int .i64 r.t.card, .int .i64 r.t.seat, .int .i64 r.t.day, .int .i64 r.t.days, .int .i64 r.t.uses, .int .i64 r.t.epoch, .int .i64 r.key, .int .i64 r.left, .int .i64 r.inn, .int .i64 r.ver], .int .i64 (E : Int)]) ∧ Below w.heap.size w w' := by
  obtain ⟨rfl, rfl⟩ : E = F ∧ r = zeroR := by have := hE; rw [fdGet, if_neg (by rw [hi]; decide), hf, if_pos h0] at this; exact ⟨(Prod.mk.inj this).1.symm, (Prod.mk.inj this).2.symm⟩
  clear hE
  have HFILL := Lib.hid hf
  have HE0 := Lib.hid h0
  clear hf h0
  have HN := Lib.hid hn
  have HA := Lib.hid hA
  have HI := Lib.hid hi
  clear hn hA hi
  have HR0 := Lib.hid (RBox.new w zeroR)
  have hl0 := below_lit w #[.int .i64 0, .int .i64 0, .int .i64 0, .int .i64 0, .int .i64 0, .int .i64 0, .int .i64 0, .int .i64 0, .int .i64 0, .int .i64 0, .int .i64 0, .int .i64 0, .int .i64 0, .int .i64 0, .int .i64 0] 27
  have HB0 := Lib.hid hl0
  have HA0 := Lib.hid (HA.out.next hl0)
  have h63 : n ≤ 9223372036854775807 := by have h1 := HA.out.len; have h2 := HA.out.cap; have h3 := HN.out; omega
  clear hl0
  go_enter Try.func16, Try.ntmps16
  go_wp2_with fail
  refine (refis_tlv l n HN.out true HI.out A c _ HA0.out).mono ?_
  rintro e w1 ⟨rfl, hb⟩
  have HR1 := Lib.hid (HR0.out.next hb)
  have HB1 := Lib.hid (HB0.out.trans (hb.mono HB0.out.size))
  have HA1 := Lib.hid (HA0.out.next hb)
  clear hb HR0 HB0 HA0
  go_wp2_with fail
  obtain ⟨N, hNN⟩ : ∃ N, N = w1.heap.size := ⟨_, rfl⟩
  obtain ⟨w2, hw2⟩ : ∃ w2, w2 = w1.alloc (.cells #[.int .i64 0, .int .i64 0, .int .i64 0, .int .i64 0, .int .i64 0, .int .i64 0, .int .i64 0, .int .i64 0, .int .i64 0, .int .i64 0, .int .i64 0, .int .i64 0, .int .i64 0] 3) := ⟨_, rfl⟩
  have HZ2 := Lib.hid (show NBox w2 N z13 by rw [hw2, hNN]; exact nbox_new w1 z13 #[.int .i64 0, .int .i64 0, .int .i64 0, .int .i64 0, .int .i64 0, .int .i64 0, .int .i64 0, .int .i64 0, .int .i64 0, .int .i64 0, .int .i64 0, .int .i64 0, .int .i64 0] rfl)
  have hl1 : Below w1.heap.size w1 w2 := by rw [hw2]; exact below_lit w1 #[.int .i64 0, .int .i64 0, .int .i64 0, .int .i64 0, .int .i64 0, .int .i64 0, .int .i64 0, .int .i64 0, .int .i64 0, .int .i64 0, .int .i64 0, .int .i64 0, .int .i64 0] 3
  have HXW := Lib.hid (show w.heap.size < N by rw [hNN]; exact HR1.out.lt)
  have HR2 := Lib.hid (HR1.out.next hl1)
  have HB2 := Lib.hid (HB1.out.trans (hl1.mono HB1.out.size))
  have HA2 := Lib.hid (show Ts w2 N l A c by rw [hNN]; exact HA1.out.below hl1)
  have hN2 := HZ2.out.lt
  rw [← hw2, ← hNN]
  clear hw2 hNN hl1 HR1 HB1 HA1
  go_loopw [5] (fun i wr => ∃ (k : Nat) (b : List Int), k ≤ n ∧ i = .int .i64 k ∧ b.length = 13 ∧ fdFill b (l.drop k) = (E, a) ∧ NBox wr N b ∧ w2.grownBy wr (some N)) (fun i _ => n - (intOf i).toNat)
  case atStart => exact ⟨0, z13, Nat.zero_le _, rfl, rfl, HFILL.out, HZ2.out, World.grownBy.refl _ _⟩
  case round =>
    obtain ⟨k, b, hk, rfl, hbl, hfill, hbox, hg⟩ := hrel
    have HF := Lib.hid hfill
    have HB := Lib.hid hbox
    have HG := Lib.hid hg
    have HL := Lib.hid hbl
    have hsz := hg.size
    have HRr := Lib.hid (show RBox wr w.heap.size zeroR from (hg.block _ HR2.out.lt (by have := HXW.out; simp; omega)).trans HR2.out)
    have HBr := Lib.hid (HB2.out.trans (below_grownR hg (Nat.le_of_lt HXW.out) HB2.out.size))
    clear hfill hbox hg hbl
    by_cases hlt : k < n
    · obtain ⟨ad, S, cc, rfl, had, hk4⟩ := (HA2.out.below (below_grownR HG.out (Nat.le_refl _) (Nat.le_of_lt hN2))).rd k (by rw [← HN.out]; exact hlt)
      have hc0 := hk4.c0
      have hc1 := hk4.c1
      have hcap := hk4.bs.len
      have hcap2 := hk4.bs.cap
      have HKL := Lib.hid (show k < l.length by rw [← HN.out]; exact hlt)
      have h0 := isT_pos HI.out HKL.out
      have b1 : (0 : Int) ≤ (k : Int) := by omega
      have b2 : (k : Int) < (n : Int) := by omega
      have F1 := Lib.hid (fun q => fdFill_must (a := b) HKL.out q)
      have F2 := Lib.hid (fun q q2 => fdFill_unknown (a := b) HKL.out q q2)
      have F3 := Lib.hid (fun q2 (v E : Nat) hv hE => fdFill_value (a := b) HKL.out q2 (v := v) (E := E) hv hE)
      have F4 := Lib.hid (fun q2 (v : Nat) hv => fdFill_step (a := b) HKL.out q2 (v := v) hv)
      obtain ⟨x, hx⟩ : ∃ x, x = l.getD k TF0 := ⟨_, rfl⟩
      rw [← hx] at hc0 hc1 hcap h0 F1 F2 F3 F4
      have HBS := Lib.hid (show Bs wr wr.heap.size x.val S cc by rw [hx]; exact hk4.bs.more (Nat.le_of_lt HB.out.lt))
      clear hx hk4
      by_cases q1 : 128 ≤ x.tag
      · have e := F1.out q1
        rw [HF.out] at e
        obtain ⟨e1, e2⟩ := Prod.mk.inj e
        have HE1 := Lib.hid e1
        clear e e1 e2
        go_wp2_with ((with_reducible refine at_store 2 ?_); refine wpList_store_named (o := ⟨none, .store 27 (.tmp 2) (.tmp 26), _, _, _, _⟩) rfl 27 (.tmp 2) (.tmp 26) rfl w.heap.size #[.int .i64 0, .int .i64 0, .int .i64 0, .int .i64 0, .int .i64 0, .int .i64 0, .int .i64 0, .int .i64 0, .int .i64 0, .int .i64 0, .int .i64 0, .int .i64 0, .int .i64 0, .int .i64 0, .int .i64 0] rfl rfl 27 #[.int .i64 0, .int .i64 0, .int .i64 0, .int .i64 0, .int .i64 0, .int .i64 0, .int .i64 0, .int .i64 0, .int .i64 0, .int .i64 0, .int .i64 0, .int .i64 0, .int .i64 0, .int .i64 0, .int .i64 0] HRr.out infoRd rfl (rg_one _ _ _ _ _ _ _ _ _ _ _ _ _ _ _) ?_)
        intro w9 hw9
        go_wp2
        refine bodyPost_ret (results_row_tmp' Try.results16 _ w9 w.heap.size 27 #[.int .i64 0, .int .i64 0, .int .i64 0, .int .i64 0, .int .i64 0, .int .i64 0, .int .i64 0, .int .i64 0, .int .i64 0, .int .i64 0, .int .i64 0, .int .i64 0, .int .i64 0, .int .i64 0, .int .i64 0] (0, 0) _ rfl (by rw [hw9.out]; exact setRow_heap _ _ _ _ _ _ HRr.out) Try.underlying27 rfl infoRd) rfl ⟨by rw [HE1.out]; rfl, ?_⟩
        rw [hw9.out]
        exact below_setRow HBr.out (Nat.le_refl _) _
      by_cases q2 : 13 < x.tag
      · have e := F2.out q1 q2
        rw [HF.out] at e
        obtain ⟨e1, e2⟩ := Prod.mk.inj e
        have HE1 := Lib.hid e1
        clear e e1 e2
        go_wp2_with ((with_reducible refine at_store 2 ?_); refine wpList_store_named (o := ⟨none, .store 27 (.tmp 2) (.tmp 33), _, _, _, _⟩) rfl 27 (.tmp 2) (.tmp 33) rfl w.heap.size #[.int .i64 0, .int .i64 0, .int .i64 0, .int .i64 0, .int .i64 0, .int .i64 0, .int .i64 0, .int .i64 0, .int .i64 0, .int .i64 0, .int .i64 0, .int .i64 0, .int .i64 0, .int .i64 0, .int .i64 0] rfl rfl 27 #[.int .i64 0, .int .i64 0, .int .i64 0, .int .i64 0, .int .i64 0, .int .i64 0, .int .i64 0, .int .i64 0, .int .i64 0, .int .i64 0, .int .i64 0, .int .i64 0, .int .i64 0, .int .i64 0, .int .i64 0] HRr.out infoRd rfl (rg_one _ _ _ _ _ _ _ _ _ _ _ _ _ _ _) ?_)
        intro w9 hw9
        go_wp2
        refine bodyPost_ret (results_row_tmp' Try.results16 _ w9 w.heap.size 27 #[.int .i64 0, .int .i64 0, .int .i64 0, .int .i64 0, .int .i64 0, .int .i64 0, .int .i64 0, .int .i64 0, .int .i64 0, .int .i64 0, .int .i64 0, .int .i64 0, .int .i64 0, .int .i64 0, .int .i64 0] (0, 0) _ rfl (by rw [hw9.out]; exact setRow_heap _ _ _ _ _ _ HRr.out) Try.underlying27 rfl infoRd) rfl ⟨by rw [HE1.out]; rfl, ?_⟩
        rw [hw9.out]
        exact below_setRow HBr.out (Nat.le_refl _) _
      obtain ⟨s, hs⟩ : ∃ s : Nat, x.tag = (s : Int) + 1 := ⟨x.tag.toNat - 1, by omega⟩
      obtain ⟨m, hm⟩ : ∃ m : Nat, x.val.length = m := ⟨_, rfl⟩
      obtain ⟨v, Ev, hv⟩ : ∃ v Ev, valT x.val = (v, Ev) := ⟨_, _, rfl⟩
      have HV := Lib.hid hv
      have HM := Lib.hid hm
      have hs13 : s < 13 := by omega
      rw [hm] at hc1 hcap
      rw [hs] at hc0
      have G3 := F3.out q2 v Ev hv
      have G4 := F4.out q2 v
      rw [show x.tag.toNat - 1 = s by omega] at G4
      have HG3 := Lib.hid G3
      have HG4 := Lib.hid G4
      have b3 : ¬ ((128 : Int) ≤ (s : Int) + 1) := by omega
      have b4 : ¬ ((13 : Int) < (s : Int) + 1) := by omega
      clear hv hm G3 G4 F1 F2 F3 F4 q1 q2 hs h0
      by_cases hE0 : Ev = 0
      rotate_left
      · have e := HG3.out hE0
        rw [HF.out] at e
        obtain ⟨e1, e2⟩ := Prod.mk.inj e
        have HE1 := Lib.hid e1
        have s1 : ((Ev : Int) == 0) = false := by rw [beq_eq_false_iff_ne]; omega
        have s2 : ((Ev : Int) != 0) = true := by rw [bne_iff_ne]; omega
        have s3 : (Ev == 0) = false := by rw [beq_eq_false_iff_ne]; exact hE0
        have s4 : (Ev != 0) = true := by rw [bne_iff_ne]; exact hE0
        clear e e1 e2 hE0
        go_wp2_with fail
        refine (trefvalue_any x.val m HM.out.symm v Ev HV.out S cc _ HBS.out).mono ?_
        rintro e w3 ⟨rfl, rfl⟩
        go_wp2_with ((with_reducible refine at_store 2 ?_); refine wpList_store_named (o := ⟨none, .store 27 (.tmp 2) (.tmp 45), _, _, _, _⟩) rfl 27 (.tmp 2) (.tmp 45) rfl w.heap.size #[.int .i64 0, .int .i64 0, .int .i64 0, .int .i64 0, .int .i64 0, .int .i64 0, .int .i64 0, .int .i64 0, .int .i64 0, .int .i64 0, .int .i64 0, .int .i64 0, .int .i64 0, .int .i64 0, .int .i64 0] rfl rfl 27 #[.int .i64 0, .int .i64 0, .int .i64 0, .int .i64 0, .int .i64 0, .int .i64 0, .int .i64 0, .int .i64 0, .int .i64 0, .int .i64 0, .int .i64 0, .int .i64 0, .int .i64 0, .int .i64 0, .int .i64 0] HRr.out infoRd rfl (rg_one _ _ _ _ _ _ _ _ _ _ _ _ _ _ _) ?_)
        intro w9 hw9
        go_wp2
        refine bodyPost_ret (results_row_tmp' Try.results16 _ w9 w.heap.size 27 #[.int .i64 0, .int .i64 0, .int .i64 0, .int .i64 0, .int .i64 0, .int .i64 0, .int .i64 0, .int .i64 0, .int .i64 0, .int .i64 0, .int .i64 0, .int .i64 0, .int .i64 0, .int .i64 0, .int .i64 0] (0, 0) _ rfl (by rw [hw9.out]; exact setRow_heap _ _ _ _ _ _ HRr.out) Try.underlying27 rfl infoRd) rfl ⟨by rw [HE1.out]; rfl, ?_⟩
        rw [hw9.out]
        exact below_setRow HBr.out (Nat.le_refl _) _
      subst hE0
      have e := HG4.out HV.out
      rw [HF.out] at e
      have HE4 := Lib.hid e.symm
      obtain ⟨y, hy⟩ : ∃ y, b[s]? = some y := ⟨_, List.getElem?_eq_getElem (by rw [HL.out]; exact hs13)⟩
      have hcy := HB.out.cell hy
      have hfy := HB.out.frozen s
      have i1 : IntKind.i64.wrap ((s : Int) + 1 - 1) = (s : Int) := by rw [Int.add_sub_cancel]; exact IntWalk.i64_in _ (by omega)
      have i2 : IntKind.i64.wrap (s : Int) = (s : Int) := IntWalk.i64_in _ (by omega)
      have i3 : (0 : Int) ≤ (s : Int) := by omega
      have i4 : (s : Int) < 13 := by omega
      clear e hy HG3 HG4
      go_wp2_with fail
      refine (trefvalue_any x.val m HM.out.symm v 0 HV.out S cc _ HBS.out).mono ?_
      rintro e w3 ⟨rfl, rfl⟩
      go_wp2
      go_roundw
      case rel => exact ⟨k + 1, b.set s (v : Int), by omega, by go_num, by rw [List.length_set]; exact HL.out, HE4.out, HB.out.set s (v : Int), grownR_trans HG.out (grown_cell wr N s (.int .i64 (v : Int)))⟩
      case measure => simp [intOf]; omega
    · have e : k = n := by omega
      have e2 : l.drop k = [] := List.drop_eq_nil_of_le (by rw [← HN.out]; omega)
      have e3 := HF.out
      rw [e2, fdFill] at e3
      exact absurd (Prod.mk.inj e3).1.symm HE0.out
end Go.Proofs.Ytaldpioahnbkgaa
