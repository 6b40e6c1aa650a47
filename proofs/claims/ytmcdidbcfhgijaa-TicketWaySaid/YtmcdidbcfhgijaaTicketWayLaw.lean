/-
  Law TicketWay walked, out of the contracts: it answers true. Conditions: the numbers fit an int.
-/
import Derived.Test.YtmcdidbcfhgijaaSold
namespace Go.Proofs.Ytmcdidbcfhgijaa
set_option linter.unusedVariables false
open Go.ChangeShapes Go.WideShapes Go.ChangeAt Go.RowKit

theorem covC_succ (t : Tk) (k : Nat) : covC t (k + 1) = if covN t (k : Int) = true then covC t k + 1 else covC t k := rfl
set_option maxRecDepth 100000 in
set_option maxHeartbeats 3200000 in
theorem way9_any (C : TC) (t : Tk) (jt : InT t) (w : World) : Calls Try.prog 4 #[.agg #[.int .i64 t.ser, .int .i64 t.kind, .int .i64 t.frm, .int .i64 t.till, .int .i64 t.cls, .int .i64 t.card, .int .i64 t.seat, .int .i64 t.day, .int .i64 t.days, .int .i64 t.uses, .int .i64 t.epoch]] w fun e w' => e = .returned (.bool true) ∧ Below w.heap.size w w' := by
  have RT := Lib.hid jt
  clear jt
  have HBL := Lib.hid (Below.refl w.heap.size w)
  cases h : okT t with
  | false =>
    have HO := Lib.hid h
    clear h
    go_enter Try.func4, Try.ntmps4
    go_wp2_with fail
    obtain ⟨w1, hw⟩ : ∃ w1, w1 = w.alloc (.cells #[.int .i64 t.ser, .int .i64 t.kind, .int .i64 t.frm, .int .i64 t.till, .int .i64 t.cls, .int .i64 t.card, .int .i64 t.seat, .int .i64 t.day, .int .i64 t.days, .int .i64 t.uses, .int .i64 t.epoch] 23) := ⟨_, rfl⟩
    rw [← hw]
    have hx : TBox w1 w.heap.size t := by rw [hw]; exact TBox.new w t
    have hb : Below w.heap.size w w1 := by rw [hw]; exact below_lit w _ _
    replace HBL := Lib.hid (HBL.out.trans (hb.mono HBL.out.size))
    have X1 := Lib.hid hx
    clear hx hb hw
    refine (C.is t false w1 RT.out HO.out).mono ?_
    rintro e w2 ⟨rfl, hb⟩
    replace X1 := Lib.hid (X1.out.next hb)
    replace HBL := Lib.hid (HBL.out.trans (hb.mono HBL.out.size))
    clear hb
    go_wp2_with fail
    refine (sold_any C w2).mono ?_
    rintro e w3 ⟨rfl, hb⟩
    replace X1 := Lib.hid (X1.out.next hb)
    replace HBL := Lib.hid (HBL.out.trans (hb.mono HBL.out.size))
    clear hb
    go_wp2
    go_ret
    exact ⟨rfl, HBL.out⟩
  | true =>
    have HO := Lib.hid h
    clear h
    go_enter Try.func4, Try.ntmps4
    go_wp2_with fail
    obtain ⟨w1, hw⟩ : ∃ w1, w1 = w.alloc (.cells #[.int .i64 t.ser, .int .i64 t.kind, .int .i64 t.frm, .int .i64 t.till, .int .i64 t.cls, .int .i64 t.card, .int .i64 t.seat, .int .i64 t.day, .int .i64 t.days, .int .i64 t.uses, .int .i64 t.epoch] 23) := ⟨_, rfl⟩
    rw [← hw]
    have hx : TBox w1 w.heap.size t := by rw [hw]; exact TBox.new w t
    have hb : Below w.heap.size w w1 := by rw [hw]; exact below_lit w _ _
    replace HBL := Lib.hid (HBL.out.trans (hb.mono HBL.out.size))
    have X1 := Lib.hid hx
    clear hx hb hw
    refine (C.is t true w1 RT.out HO.out).mono ?_
    rintro e w2 ⟨rfl, hb⟩
    replace X1 := Lib.hid (X1.out.next hb)
    replace HBL := Lib.hid (HBL.out.trans (hb.mono HBL.out.size))
    clear hb
    go_wp2
    go_loopw [3, 4] (fun n i wr => ∃ k : Nat, k ≤ 40 ∧ i = .int .i64 k ∧ n = .int .i64 (covC t k : Nat) ∧ TBox wr w.heap.size t ∧ Below w.heap.size w wr) (fun _ i _ => 40 - (intOf i).toNat)
    case atStart => exact ⟨0, by omega, rfl, rfl, X1.out, HBL.out⟩
    case round =>
      obtain ⟨k, hk, rfl, rfl, hx, hbel⟩ := hrel
      replace X1 := Lib.hid hx
      replace HBL := Lib.hid hbel
      clear hx hbel
      by_cases hlt : k < 40
      · have b1 : (k : Int) < 40 := by omega
        have hkN : isN (k : Int) = true := (isN_iff _).2 (by omega)
        have hok : okV t (k : Int) = true := by rw [okV, HO.out, hkN]; rfl
        have HF := Lib.hid (show covE t (k : Int) = 0 by rw [covE, if_pos hok])
        have hv : covV t (k : Int) = covN t (k : Int) := by rw [covV, if_pos hok]
        have RK := Lib.hid (show In64 (k : Int) from in64_nat (by omega))
        have hcl := covC_le t k
        have wc : IntKind.i64.wrap ((covC t k : Nat) + 1 : Int) = ((covC t k : Nat) : Int) + 1 := IntWalk.i64_in _ (by omega)
        have hcs := covC_succ t k
        cases hb : covN t (k : Int)
        all_goals
          have HV := Lib.hid (hv.trans hb)
          rw [hb] at hcs
          have HCS := Lib.hid hcs
          clear hkN hok hv hcs hb hcl
          have c91_0 : wr.cell? ⟨_, 0, none⟩ = some (.int .i64 t.ser) := X1.out.cells.1
          have c91_1 : wr.cell? ⟨_, 1, none⟩ = some (.int .i64 t.kind) := X1.out.cells.2.1
          have c91_2 : wr.cell? ⟨_, 2, none⟩ = some (.int .i64 t.frm) := X1.out.cells.2.2.1
          have c91_3 : wr.cell? ⟨_, 3, none⟩ = some (.int .i64 t.till) := X1.out.cells.2.2.2.1
          have c91_4 : wr.cell? ⟨_, 4, none⟩ = some (.int .i64 t.cls) := X1.out.cells.2.2.2.2.1
          have c91_5 : wr.cell? ⟨_, 5, none⟩ = some (.int .i64 t.card) := X1.out.cells.2.2.2.2.2.1
          have c91_6 : wr.cell? ⟨_, 6, none⟩ = some (.int .i64 t.seat) := X1.out.cells.2.2.2.2.2.2.1
          have c91_7 : wr.cell? ⟨_, 7, none⟩ = some (.int .i64 t.day) := X1.out.cells.2.2.2.2.2.2.2.1
          have c91_8 : wr.cell? ⟨_, 8, none⟩ = some (.int .i64 t.days) := X1.out.cells.2.2.2.2.2.2.2.2.1
          have c91_9 : wr.cell? ⟨_, 9, none⟩ = some (.int .i64 t.uses) := X1.out.cells.2.2.2.2.2.2.2.2.2.1
          have c91_10 : wr.cell? ⟨_, 10, none⟩ = some (.int .i64 t.epoch) := X1.out.cells.2.2.2.2.2.2.2.2.2.2
          go_wp2_with fail
          refine (C.covers t (k : Int) _ 0 wr RT.out RK.out HV.out HF.out).mono ?_
          rintro e w5 ⟨rfl, hb⟩
          replace X1 := Lib.hid (X1.out.next hb)
          replace HBL := Lib.hid (HBL.out.trans (hb.mono HBL.out.size))
          clear hb
          go_wp2
          go_roundw
          case rel => exact ⟨k + 1, by omega, by go_num, by rw [HCS.out]; first | done | go_num, X1.out, HBL.out⟩
          case measure => simp [intOf]; omega
      · have e : k = 40 := by omega
        subst e
        obtain ⟨m, hm⟩ : ∃ m, covC t 40 = m := ⟨_, rfl⟩
        rw [hm]
        by_cases h3 : t.kind = 3
        · have q3 : (t.kind == 3) = true := by rw [beq_iff_eq]; exact h3
          have hz : okZ t.frm t.till = true := (okZ_iff _ _).2 (by have := zones_of HO.out h3; omega)
          have HL := Lib.hid (show stV t.frm t.till = stL t.frm t.till 40 by rw [stV, if_pos hz])
          have HS := Lib.hid (show stE t.frm t.till = 0 by rw [stE, if_pos hz])
          have HN := Lib.hid (show m = (stL t.frm t.till 40).length by rw [← hm, covC_season h3])
          clear hm hz h3 hlt hk
          have c1_0 : wr.cell? ⟨_, 0, none⟩ = some (.int .i64 t.ser) := X1.out.cells.1
          have c1_1 : wr.cell? ⟨_, 1, none⟩ = some (.int .i64 t.kind) := X1.out.cells.2.1
          have c1_2 : wr.cell? ⟨_, 2, none⟩ = some (.int .i64 t.frm) := X1.out.cells.2.2.1
          have c1_3 : wr.cell? ⟨_, 3, none⟩ = some (.int .i64 t.till) := X1.out.cells.2.2.2.1
          have c1_4 : wr.cell? ⟨_, 4, none⟩ = some (.int .i64 t.cls) := X1.out.cells.2.2.2.2.1
          have c1_5 : wr.cell? ⟨_, 5, none⟩ = some (.int .i64 t.card) := X1.out.cells.2.2.2.2.2.1
          have c1_6 : wr.cell? ⟨_, 6, none⟩ = some (.int .i64 t.seat) := X1.out.cells.2.2.2.2.2.2.1
          have c1_7 : wr.cell? ⟨_, 7, none⟩ = some (.int .i64 t.day) := X1.out.cells.2.2.2.2.2.2.2.1
          have c1_8 : wr.cell? ⟨_, 8, none⟩ = some (.int .i64 t.days) := X1.out.cells.2.2.2.2.2.2.2.2.1
          have c1_9 : wr.cell? ⟨_, 9, none⟩ = some (.int .i64 t.uses) := X1.out.cells.2.2.2.2.2.2.2.2.2.1
          have c1_10 : wr.cell? ⟨_, 10, none⟩ = some (.int .i64 t.epoch) := X1.out.cells.2.2.2.2.2.2.2.2.2.2
          go_wp2_with fail
          refine (C.stations t.frm t.till 0 (stL t.frm t.till 40) m wr RT.out.2.2.1 RT.out.2.2.2.1 HL.out HN.out HS.out).mono ?_
          rintro e w6 ⟨A, c, rfl, hs, hb⟩
          replace X1 := Lib.hid (X1.out.next hb)
          replace HBL := Lib.hid (HBL.out.trans (hb.mono HBL.out.size))
          clear hb hs
          go_wp2_with fail
          refine (sold_any C w6).mono ?_
          rintro e w7 ⟨rfl, hb⟩
          replace X1 := Lib.hid (X1.out.next hb)
          replace HBL := Lib.hid (HBL.out.trans (hb.mono HBL.out.size))
          clear hb
          have c2_0 : w7.cell? ⟨_, 0, none⟩ = some (.int .i64 t.ser) := X1.out.cells.1
          have c2_1 : w7.cell? ⟨_, 1, none⟩ = some (.int .i64 t.kind) := X1.out.cells.2.1
          have c2_2 : w7.cell? ⟨_, 2, none⟩ = some (.int .i64 t.frm) := X1.out.cells.2.2.1
          have c2_3 : w7.cell? ⟨_, 3, none⟩ = some (.int .i64 t.till) := X1.out.cells.2.2.2.1
          have c2_4 : w7.cell? ⟨_, 4, none⟩ = some (.int .i64 t.cls) := X1.out.cells.2.2.2.2.1
          have c2_5 : w7.cell? ⟨_, 5, none⟩ = some (.int .i64 t.card) := X1.out.cells.2.2.2.2.2.1
          have c2_6 : w7.cell? ⟨_, 6, none⟩ = some (.int .i64 t.seat) := X1.out.cells.2.2.2.2.2.2.1
          have c2_7 : w7.cell? ⟨_, 7, none⟩ = some (.int .i64 t.day) := X1.out.cells.2.2.2.2.2.2.2.1
          have c2_8 : w7.cell? ⟨_, 8, none⟩ = some (.int .i64 t.days) := X1.out.cells.2.2.2.2.2.2.2.2.1
          have c2_9 : w7.cell? ⟨_, 9, none⟩ = some (.int .i64 t.uses) := X1.out.cells.2.2.2.2.2.2.2.2.2.1
          have c2_10 : w7.cell? ⟨_, 10, none⟩ = some (.int .i64 t.epoch) := X1.out.cells.2.2.2.2.2.2.2.2.2.2
          go_wp2
          go_ret
          exact ⟨rfl, HBL.out⟩
        · have q3 : (t.kind == 3) = false := by rw [beq_eq_false_iff_ne]; exact h3
          have HE := Lib.hid (ends_covered HO.out h3)
          have hw := way_of HO.out h3
          have i1 := (isN_iff _).1 hw.1
          have i2 := (isN_iff _).1 hw.2.1
          have hc := way_count HO.out h3
          rw [hm] at hc
          have w1 : IntKind.i64.wrap (t.till - t.frm) = t.till - t.frm := IntWalk.i64_in _ (by omega)
          have w2 : IntKind.i64.wrap (t.till - t.frm + 1) = t.till - t.frm + 1 := IntWalk.i64_in _ (by omega)
          have w3 : IntKind.i64.wrap (t.frm - t.till) = t.frm - t.till := IntWalk.i64_in _ (by omega)
          have w4 : IntKind.i64.wrap (t.frm - t.till + 1) = t.frm - t.till + 1 := IntWalk.i64_in _ (by omega)
          cases q4 : ((m : Int) == t.till - t.frm + 1)
          case true =>
            clear hm h3 hlt hk hw i1 i2 hc
            have c1_0 : wr.cell? ⟨_, 0, none⟩ = some (.int .i64 t.ser) := X1.out.cells.1
            have c1_1 : wr.cell? ⟨_, 1, none⟩ = some (.int .i64 t.kind) := X1.out.cells.2.1
            have c1_2 : wr.cell? ⟨_, 2, none⟩ = some (.int .i64 t.frm) := X1.out.cells.2.2.1
            have c1_3 : wr.cell? ⟨_, 3, none⟩ = some (.int .i64 t.till) := X1.out.cells.2.2.2.1
            have c1_4 : wr.cell? ⟨_, 4, none⟩ = some (.int .i64 t.cls) := X1.out.cells.2.2.2.2.1
            have c1_5 : wr.cell? ⟨_, 5, none⟩ = some (.int .i64 t.card) := X1.out.cells.2.2.2.2.2.1
            have c1_6 : wr.cell? ⟨_, 6, none⟩ = some (.int .i64 t.seat) := X1.out.cells.2.2.2.2.2.2.1
            have c1_7 : wr.cell? ⟨_, 7, none⟩ = some (.int .i64 t.day) := X1.out.cells.2.2.2.2.2.2.2.1
            have c1_8 : wr.cell? ⟨_, 8, none⟩ = some (.int .i64 t.days) := X1.out.cells.2.2.2.2.2.2.2.2.1
            have c1_9 : wr.cell? ⟨_, 9, none⟩ = some (.int .i64 t.uses) := X1.out.cells.2.2.2.2.2.2.2.2.2.1
            have c1_10 : wr.cell? ⟨_, 10, none⟩ = some (.int .i64 t.epoch) := X1.out.cells.2.2.2.2.2.2.2.2.2.2
            go_wp2_with fail
            refine (C.covers t t.frm true 0 wr RT.out RT.out.2.2.1 HE.out.1 HE.out.2.1).mono ?_
            rintro e w6 ⟨rfl, hb⟩
            replace X1 := Lib.hid (X1.out.next hb)
            replace HBL := Lib.hid (HBL.out.trans (hb.mono HBL.out.size))
            clear hb
            have c2_0 : w6.cell? ⟨_, 0, none⟩ = some (.int .i64 t.ser) := X1.out.cells.1
            have c2_1 : w6.cell? ⟨_, 1, none⟩ = some (.int .i64 t.kind) := X1.out.cells.2.1
            have c2_2 : w6.cell? ⟨_, 2, none⟩ = some (.int .i64 t.frm) := X1.out.cells.2.2.1
            have c2_3 : w6.cell? ⟨_, 3, none⟩ = some (.int .i64 t.till) := X1.out.cells.2.2.2.1
            have c2_4 : w6.cell? ⟨_, 4, none⟩ = some (.int .i64 t.cls) := X1.out.cells.2.2.2.2.1
            have c2_5 : w6.cell? ⟨_, 5, none⟩ = some (.int .i64 t.card) := X1.out.cells.2.2.2.2.2.1
            have c2_6 : w6.cell? ⟨_, 6, none⟩ = some (.int .i64 t.seat) := X1.out.cells.2.2.2.2.2.2.1
            have c2_7 : w6.cell? ⟨_, 7, none⟩ = some (.int .i64 t.day) := X1.out.cells.2.2.2.2.2.2.2.1
            have c2_8 : w6.cell? ⟨_, 8, none⟩ = some (.int .i64 t.days) := X1.out.cells.2.2.2.2.2.2.2.2.1
            have c2_9 : w6.cell? ⟨_, 9, none⟩ = some (.int .i64 t.uses) := X1.out.cells.2.2.2.2.2.2.2.2.2.1
            have c2_10 : w6.cell? ⟨_, 10, none⟩ = some (.int .i64 t.epoch) := X1.out.cells.2.2.2.2.2.2.2.2.2.2
            go_wp2_with fail
            refine (C.covers t t.till true 0 w6 RT.out RT.out.2.2.2.1 HE.out.2.2.1 HE.out.2.2.2).mono ?_
            rintro e w7 ⟨rfl, hb⟩
            replace X1 := Lib.hid (X1.out.next hb)
            replace HBL := Lib.hid (HBL.out.trans (hb.mono HBL.out.size))
            clear hb
            have c3_0 : w7.cell? ⟨_, 0, none⟩ = some (.int .i64 t.ser) := X1.out.cells.1
            have c3_1 : w7.cell? ⟨_, 1, none⟩ = some (.int .i64 t.kind) := X1.out.cells.2.1
            have c3_2 : w7.cell? ⟨_, 2, none⟩ = some (.int .i64 t.frm) := X1.out.cells.2.2.1
            have c3_3 : w7.cell? ⟨_, 3, none⟩ = some (.int .i64 t.till) := X1.out.cells.2.2.2.1
            have c3_4 : w7.cell? ⟨_, 4, none⟩ = some (.int .i64 t.cls) := X1.out.cells.2.2.2.2.1
            have c3_5 : w7.cell? ⟨_, 5, none⟩ = some (.int .i64 t.card) := X1.out.cells.2.2.2.2.2.1
            have c3_6 : w7.cell? ⟨_, 6, none⟩ = some (.int .i64 t.seat) := X1.out.cells.2.2.2.2.2.2.1
            have c3_7 : w7.cell? ⟨_, 7, none⟩ = some (.int .i64 t.day) := X1.out.cells.2.2.2.2.2.2.2.1
            have c3_8 : w7.cell? ⟨_, 8, none⟩ = some (.int .i64 t.days) := X1.out.cells.2.2.2.2.2.2.2.2.1
            have c3_9 : w7.cell? ⟨_, 9, none⟩ = some (.int .i64 t.uses) := X1.out.cells.2.2.2.2.2.2.2.2.2.1
            have c3_10 : w7.cell? ⟨_, 10, none⟩ = some (.int .i64 t.epoch) := X1.out.cells.2.2.2.2.2.2.2.2.2.2
            go_wp2_with fail
            refine (sold_any C w7).mono ?_
            rintro e w8 ⟨rfl, hb⟩
            replace X1 := Lib.hid (X1.out.next hb)
            replace HBL := Lib.hid (HBL.out.trans (hb.mono HBL.out.size))
            clear hb
            have c4_0 : w8.cell? ⟨_, 0, none⟩ = some (.int .i64 t.ser) := X1.out.cells.1
            have c4_1 : w8.cell? ⟨_, 1, none⟩ = some (.int .i64 t.kind) := X1.out.cells.2.1
            have c4_2 : w8.cell? ⟨_, 2, none⟩ = some (.int .i64 t.frm) := X1.out.cells.2.2.1
            have c4_3 : w8.cell? ⟨_, 3, none⟩ = some (.int .i64 t.till) := X1.out.cells.2.2.2.1
            have c4_4 : w8.cell? ⟨_, 4, none⟩ = some (.int .i64 t.cls) := X1.out.cells.2.2.2.2.1
            have c4_5 : w8.cell? ⟨_, 5, none⟩ = some (.int .i64 t.card) := X1.out.cells.2.2.2.2.2.1
            have c4_6 : w8.cell? ⟨_, 6, none⟩ = some (.int .i64 t.seat) := X1.out.cells.2.2.2.2.2.2.1
            have c4_7 : w8.cell? ⟨_, 7, none⟩ = some (.int .i64 t.day) := X1.out.cells.2.2.2.2.2.2.2.1
            have c4_8 : w8.cell? ⟨_, 8, none⟩ = some (.int .i64 t.days) := X1.out.cells.2.2.2.2.2.2.2.2.1
            have c4_9 : w8.cell? ⟨_, 9, none⟩ = some (.int .i64 t.uses) := X1.out.cells.2.2.2.2.2.2.2.2.2.1
            have c4_10 : w8.cell? ⟨_, 10, none⟩ = some (.int .i64 t.epoch) := X1.out.cells.2.2.2.2.2.2.2.2.2.2
            go_wp2
            go_ret
            exact ⟨rfl, HBL.out⟩
          case false =>
            have q5 : ((m : Int) == t.frm - t.till + 1) = true := by
              rw [beq_iff_eq]
              rw [beq_eq_false_iff_ne] at q4
              omega
            clear hm h3 hlt hk hw i1 i2 hc
            have c1_0 : wr.cell? ⟨_, 0, none⟩ = some (.int .i64 t.ser) := X1.out.cells.1
            have c1_1 : wr.cell? ⟨_, 1, none⟩ = some (.int .i64 t.kind) := X1.out.cells.2.1
            have c1_2 : wr.cell? ⟨_, 2, none⟩ = some (.int .i64 t.frm) := X1.out.cells.2.2.1
            have c1_3 : wr.cell? ⟨_, 3, none⟩ = some (.int .i64 t.till) := X1.out.cells.2.2.2.1
            have c1_4 : wr.cell? ⟨_, 4, none⟩ = some (.int .i64 t.cls) := X1.out.cells.2.2.2.2.1
            have c1_5 : wr.cell? ⟨_, 5, none⟩ = some (.int .i64 t.card) := X1.out.cells.2.2.2.2.2.1
            have c1_6 : wr.cell? ⟨_, 6, none⟩ = some (.int .i64 t.seat) := X1.out.cells.2.2.2.2.2.2.1
            have c1_7 : wr.cell? ⟨_, 7, none⟩ = some (.int .i64 t.day) := X1.out.cells.2.2.2.2.2.2.2.1
            have c1_8 : wr.cell? ⟨_, 8, none⟩ = some (.int .i64 t.days) := X1.out.cells.2.2.2.2.2.2.2.2.1
            have c1_9 : wr.cell? ⟨_, 9, none⟩ = some (.int .i64 t.uses) := X1.out.cells.2.2.2.2.2.2.2.2.2.1
            have c1_10 : wr.cell? ⟨_, 10, none⟩ = some (.int .i64 t.epoch) := X1.out.cells.2.2.2.2.2.2.2.2.2.2
            go_wp2_with fail
            refine (C.covers t t.frm true 0 wr RT.out RT.out.2.2.1 HE.out.1 HE.out.2.1).mono ?_
            rintro e w6 ⟨rfl, hb⟩
            replace X1 := Lib.hid (X1.out.next hb)
            replace HBL := Lib.hid (HBL.out.trans (hb.mono HBL.out.size))
            clear hb
            have c2_0 : w6.cell? ⟨_, 0, none⟩ = some (.int .i64 t.ser) := X1.out.cells.1
            have c2_1 : w6.cell? ⟨_, 1, none⟩ = some (.int .i64 t.kind) := X1.out.cells.2.1
            have c2_2 : w6.cell? ⟨_, 2, none⟩ = some (.int .i64 t.frm) := X1.out.cells.2.2.1
            have c2_3 : w6.cell? ⟨_, 3, none⟩ = some (.int .i64 t.till) := X1.out.cells.2.2.2.1
            have c2_4 : w6.cell? ⟨_, 4, none⟩ = some (.int .i64 t.cls) := X1.out.cells.2.2.2.2.1
            have c2_5 : w6.cell? ⟨_, 5, none⟩ = some (.int .i64 t.card) := X1.out.cells.2.2.2.2.2.1
            have c2_6 : w6.cell? ⟨_, 6, none⟩ = some (.int .i64 t.seat) := X1.out.cells.2.2.2.2.2.2.1
            have c2_7 : w6.cell? ⟨_, 7, none⟩ = some (.int .i64 t.day) := X1.out.cells.2.2.2.2.2.2.2.1
            have c2_8 : w6.cell? ⟨_, 8, none⟩ = some (.int .i64 t.days) := X1.out.cells.2.2.2.2.2.2.2.2.1
            have c2_9 : w6.cell? ⟨_, 9, none⟩ = some (.int .i64 t.uses) := X1.out.cells.2.2.2.2.2.2.2.2.2.1
            have c2_10 : w6.cell? ⟨_, 10, none⟩ = some (.int .i64 t.epoch) := X1.out.cells.2.2.2.2.2.2.2.2.2.2
            go_wp2_with fail
            refine (C.covers t t.till true 0 w6 RT.out RT.out.2.2.2.1 HE.out.2.2.1 HE.out.2.2.2).mono ?_
            rintro e w7 ⟨rfl, hb⟩
            replace X1 := Lib.hid (X1.out.next hb)
            replace HBL := Lib.hid (HBL.out.trans (hb.mono HBL.out.size))
            clear hb
            have c3_0 : w7.cell? ⟨_, 0, none⟩ = some (.int .i64 t.ser) := X1.out.cells.1
            have c3_1 : w7.cell? ⟨_, 1, none⟩ = some (.int .i64 t.kind) := X1.out.cells.2.1
            have c3_2 : w7.cell? ⟨_, 2, none⟩ = some (.int .i64 t.frm) := X1.out.cells.2.2.1
            have c3_3 : w7.cell? ⟨_, 3, none⟩ = some (.int .i64 t.till) := X1.out.cells.2.2.2.1
            have c3_4 : w7.cell? ⟨_, 4, none⟩ = some (.int .i64 t.cls) := X1.out.cells.2.2.2.2.1
            have c3_5 : w7.cell? ⟨_, 5, none⟩ = some (.int .i64 t.card) := X1.out.cells.2.2.2.2.2.1
            have c3_6 : w7.cell? ⟨_, 6, none⟩ = some (.int .i64 t.seat) := X1.out.cells.2.2.2.2.2.2.1
            have c3_7 : w7.cell? ⟨_, 7, none⟩ = some (.int .i64 t.day) := X1.out.cells.2.2.2.2.2.2.2.1
            have c3_8 : w7.cell? ⟨_, 8, none⟩ = some (.int .i64 t.days) := X1.out.cells.2.2.2.2.2.2.2.2.1
            have c3_9 : w7.cell? ⟨_, 9, none⟩ = some (.int .i64 t.uses) := X1.out.cells.2.2.2.2.2.2.2.2.2.1
            have c3_10 : w7.cell? ⟨_, 10, none⟩ = some (.int .i64 t.epoch) := X1.out.cells.2.2.2.2.2.2.2.2.2.2
            go_wp2_with fail
            refine (sold_any C w7).mono ?_
            rintro e w8 ⟨rfl, hb⟩
            replace X1 := Lib.hid (X1.out.next hb)
            replace HBL := Lib.hid (HBL.out.trans (hb.mono HBL.out.size))
            clear hb
            have c4_0 : w8.cell? ⟨_, 0, none⟩ = some (.int .i64 t.ser) := X1.out.cells.1
            have c4_1 : w8.cell? ⟨_, 1, none⟩ = some (.int .i64 t.kind) := X1.out.cells.2.1
            have c4_2 : w8.cell? ⟨_, 2, none⟩ = some (.int .i64 t.frm) := X1.out.cells.2.2.1
            have c4_3 : w8.cell? ⟨_, 3, none⟩ = some (.int .i64 t.till) := X1.out.cells.2.2.2.1
            have c4_4 : w8.cell? ⟨_, 4, none⟩ = some (.int .i64 t.cls) := X1.out.cells.2.2.2.2.1
            have c4_5 : w8.cell? ⟨_, 5, none⟩ = some (.int .i64 t.card) := X1.out.cells.2.2.2.2.2.1
            have c4_6 : w8.cell? ⟨_, 6, none⟩ = some (.int .i64 t.seat) := X1.out.cells.2.2.2.2.2.2.1
            have c4_7 : w8.cell? ⟨_, 7, none⟩ = some (.int .i64 t.day) := X1.out.cells.2.2.2.2.2.2.2.1
            have c4_8 : w8.cell? ⟨_, 8, none⟩ = some (.int .i64 t.days) := X1.out.cells.2.2.2.2.2.2.2.2.1
            have c4_9 : w8.cell? ⟨_, 9, none⟩ = some (.int .i64 t.uses) := X1.out.cells.2.2.2.2.2.2.2.2.2.1
            have c4_10 : w8.cell? ⟨_, 10, none⟩ = some (.int .i64 t.epoch) := X1.out.cells.2.2.2.2.2.2.2.2.2.2
            go_wp2
            go_ret
            exact ⟨rfl, HBL.out⟩
end Go.Proofs.Ytmcdidbcfhgijaa
