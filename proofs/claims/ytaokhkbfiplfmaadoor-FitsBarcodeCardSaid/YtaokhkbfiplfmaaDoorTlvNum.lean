/-
  Contracts for the landed size, Number and Value, and for the reference's Number and Value. Conditions: the number is an int; the slice reads as bytes.
  Contract for the landed fieldsOf. Conditions: the reading's block is there; the tags are tags, their numbers not below 0.
  Contracts for the landed tellsUses and settleUses. Conditions: the reading's block is there.
  A reading at work that was just laid; uses that are settled, plainly; numbers that are not below 0. No program of its own; conditions: none.
  Contract for the landed Put of fields. Conditions: none.
  Contract for the landed Is: whether fields are right. Conditions: the slice reads as fields.
-/
import Derived.Test.YtaokhkbfiplfmaaDoorFitsP
import Derived.Test.YtaokhkbfiplfmaaDoorRingFits
import Derived.Test.YtaokhkbfiplfmaaDoorShaSched
import Derived.Test.YtaokhkbfiplfmaaDoorMath
import Derived.IntWalk
import Derived.OwnWalk
import Derived.Test.YtaokhkbfiplfmaaDoorTicketPRightK
import Derived.Laws.EntriesVeiled
section
namespace Go.Proofs.YtaokhkbfiplfmaaDoor
set_option linter.unusedVariables false
open Go.ChangeShapes Go.WideShapes Go.ChangeAt Go.RowKit

theorem psize_any (N s : Nat) (hs : sizeN N = s) (h : N < 9223372036854775808) (w : World) : Calls Tryd.prog 50 #[.int .i64 N] w fun e w' => e = .returned (.int .i64 (s : Int)) ∧ w = w' := by
  have hs8 := (sizeN_spec h).1
  have HS := Lib.hid hs
  clear hs
  go_enter Tryd.func50, Tryd.ntmps50
  go_wp2
  go_loop [0, 3] (fun m i => ∃ k : Nat, k ≤ 8 ∧ m = .int .i64 (N / 256 ^ k : Nat) ∧ i = .int .i64 k ∧ ∀ j, j < k → 256 ^ j ≤ N) (fun m _ => (intOf m).toNat)
  case atStart => exact ⟨0, by omega, by simp, rfl, by omega⟩
  case round =>
    obtain ⟨k, hk, rfl, rfl, hall⟩ := hrel
    have HH := Lib.hid hall
    clear hall
    by_cases h0 : 0 < N / 256 ^ k
    · have hge : 256 ^ k ≤ N := by
        rcases Nat.lt_or_ge N (256 ^ k) with h1 | h1
        · rw [Nat.div_eq_of_lt h1] at h0; omega
        · exact h1
      have hk7 : k ≤ 7 := by
        rcases Nat.lt_or_ge k 8 with h1 | h1
        · omega
        · have : 256 ^ 8 ≤ 256 ^ k := Nat.pow_le_pow_right (by omega) h1
          omega
      have HST := Lib.hid (show ∀ j, j < k + 1 → 256 ^ j ≤ N from by
        intro j hj
        rcases Nat.lt_or_ge j k with h | h
        · exact HH.out j h
        · have e : j = k := by omega
          subst e; exact hge)
      have HNX := Lib.hid (show N / 256 ^ (k + 1) = N / 256 ^ k / 256 by rw [Nat.pow_succ, Nat.div_div_eq_div_mul])
      have hy : N / 256 ^ k < 9223372036854775808 := Nat.lt_of_le_of_lt (Nat.div_le_self _ _) h
      clear hge
      generalize N / 256 ^ k = y at *
      have b1 : (0 : Int) < (y : Int) := by omega
      go_wp2
      go_round
      case rel => exact ⟨k + 1, by omega, by rw [HNX.out]; go_num, by go_num, HST.out⟩
      case measure => simp [intOf]; omega
    · have e : s = k := by
        rw [← HS.out]
        refine sizeN_eq h ?_ HH.out
        rcases Nat.lt_or_ge N (256 ^ k) with h1 | h1
        · exact h1
        · exact absurd (Nat.div_pos h1 (Nat.pow_pos (by omega))) h0
      subst e
      have e0 : N / 256 ^ s = 0 := Nat.eq_zero_of_le_zero (Nat.le_of_not_lt h0)
      rw [e0]
      clear h0 e0
      go_wp2
      go_ret
      exact ⟨rfl, rfl⟩
set_option maxRecDepth 100000 in
set_option maxHeartbeats 800000 in
/-- The bytes of a number are the call's own. -/
theorem pnumber_own (N : Nat) (hN : N < 9223372036854775808) (p : List Nat) (hp : numB N = p) (w : World) :
    Calls Tryd.prog 39 #[.int .i64 N] w fun e w' => ∃ v, e = .returned (.tuple #[v, .int .i64 (0 : Int)]) ∧ w'.ownsRow w.heap.size 5 1 v p.length (U8 p) ∧ Below w.heap.size w w' := by
  obtain ⟨h8, hlt, _⟩ := sizeN_spec hN
  obtain ⟨s, hs⟩ : ∃ s, sizeN N = s := ⟨_, rfl⟩
  have hl : p.length = s := by rw [← hp, numB_len, hs]
  have hq : putB N s = p := by rw [← hp, numB, hs]
  rw [hs] at h8 hlt
  have HS := Lib.hid hs
  have HL := Lib.hid hl
  have HQ := Lib.hid hq
  have HLT := Lib.hid hlt
  clear hs hp hl hq hlt
  go_enter Tryd.func39, Tryd.ntmps39
  go_wp2_with fail
  refine (psize_any N s HS.out hN w).mono ?_
  rintro e w1 ⟨rfl, rfl⟩
  go_wp2_with fail
  refine (put_ok N s w hN h8 HLT.out).mono ?_
  rintro e w1 ⟨g, cap, rfl, hown, hb⟩
  rw [HQ.out] at hown
  have HO := Lib.hid hown
  have HB := Lib.hid hb
  clear hown hb
  go_wp2_with fail
  go_ret2
  exact ⟨_, rfl, by rw [HL.out]; exact HO.out, HB.out⟩
theorem u8_byte (r : Nat) (h : r < 256) : IntKind.u8.wrap (r : Int) = (r : Int) := by simp [IntKind.wrap, IntKind.signed, IntKind.bits]; omega
end Go.Proofs.YtaokhkbfiplfmaaDoor
end
section
namespace Go.Proofs.YtaokhkbfiplfmaaDoor
set_option linter.unusedVariables false
open Go.ChangeShapes Go.WideShapes Go.ChangeAt Go.RowKit

set_option maxRecDepth 100000 in
set_option maxHeartbeats 1600000 in
theorem pfldof_any (r : Rg) (X : Nat) (ts : List Nat) (n : Nat) (hn : n = ts.length) (hn13 : n ≤ 13) (hts : ∀ t ∈ ts, 1 ≤ t ∧ t ≤ 13 ∧ 0 ≤ (numL r).getD (t - 1) 0 ∧ (numL r).getD (t - 1) 0 < 9223372036854775808) (A : Option Addr) (c : Nat) (w : World) (hX : FBox w X (rgL r)) (hA : Zs w w.heap.size (zI ts) A c) :
    Calls Tryd.prog 26 #[.slice A n c, .func (.func 24) #[.pointer (some ⟨X, 0, none⟩)] #[]] w fun e w' => ∃ A' c', e = .returned (.tuple #[.slice A' n c', .int .i64 0]) ∧ Ts w' w'.heap.size (fldT (numL r) ts) A' c' ∧ Below w.heap.size w w' := by
  obtain ⟨i0, hi, hz0, hz1, hz2⟩ := info_parts infoField3
  have HX := Lib.hid hX
  have HN := Lib.hid hn
  have HT := Lib.hid hts
  have HA := Lib.hid hA
  clear hX hn hts hA
  go_enter Tryd.func26, Tryd.ntmps26
  go_wp2_with (at_make; refine wpList_make_own _ rfl _ _ 43 rfl w.heap.size 66 i0 _ 2 Tryd.underlying43 hi hz0 hz1 _ _ _ n rfl rfl rfl ?b2 ?b3 ?b4 ?_)
  case b2 => rw [hz2]; omega
  case b3 => unfold maxLen; omega
  case b4 => exact Nat.le_refl _
  intro w2 hown hgr
  have HO0 := Lib.hid hown
  have HB2 := Lib.hid (show Below w.heap.size w w2 from (Below.refl _ _).grown hgr (Nat.le_refl _) (fun j hj => by cases hj))
  clear hown hgr
  go_wp2
  go_loopw [6, 16] (fun v i wr => ∃ (k : Nat) (M : List TV), k ≤ n ∧ i = .int .i64 k ∧ M.map (·.f) = fldT (numL r) (ts.take k) ∧ wr.ownsRow w.heap.size 66 2 v k (flatV M) ∧ (∀ q ∈ M, TyB wr q.S ∧ Bs wr wr.heap.size q.f.val q.S q.c) ∧ Below w.heap.size w wr) (fun _ i _ => n - (intOf i).toNat)
  case atStart => exact ⟨0, [], Nat.zero_le _, rfl, rfl, HO0.out, by simp, HB2.out⟩
  case round =>
    obtain ⟨k, M, hk, rfl, hmap, hown, hvals, hbel⟩ := hrel
    have HMP := Lib.hid hmap
    have HO := Lib.hid hown
    have HV := Lib.hid hvals
    have HBL := Lib.hid hbel
    have hsz := hbel.size
    clear hmap hown hvals hbel
    by_cases hlt : k < n
    · obtain ⟨t, ht⟩ : ∃ t, ts[k]? = some t := ⟨_, List.getElem?_eq_getElem (by rw [← HN.out]; exact hlt)⟩
      obtain ⟨ad, rfl, had, hc⟩ := (HA.out.next HBL.out).at (zI_at ht)
      obtain ⟨t1, t2, t3, t4⟩ := HT.out t (List.mem_of_getElem? ht)
      have hcx := (HX.out.next HBL.out).cell (pos_at r t1 t2)
      have hsn := fldT_snoc (numL r) ts k t ht
      rw [← HMP.out] at hsn
      obtain ⟨x, hx⟩ : ∃ x, x = (numL r).getD (t - 1) 0 := ⟨_, rfl⟩
      rw [← hx] at hcx t3 t4 hsn
      obtain ⟨o, ho⟩ : ∃ o, o = posN t := ⟨_, rfl⟩
      rw [← ho] at hcx
      have HX0 := Lib.hid t3
      obtain ⟨p, hp⟩ : ∃ p, p = numB x.toNat := ⟨_, rfl⟩
      rw [← hp] at hsn
      have HSN := Lib.hid hsn
      obtain ⟨N, hN⟩ : ∃ N : Nat, x = (N : Int) := ⟨x.toNat, by have := HX0.out; omega⟩
      subst hN
      rw [Int.toNat_natCast] at hp
      have HP := Lib.hid hp.symm
      have HPO := Lib.hid ho.symm
      have HTT := Lib.hid (And.intro t1 t2)
      have b1 : (0 : Int) ≤ (k : Int) := by omega
      have b2 : (k : Int) < (n : Int) := by omega
      clear ht hx hp hsn t1 t2 t3 ho
      go_wp2_with fail
      refine (pnum_any X t HTT.out.1 HTT.out.2 wr).mono ?_
      rintro e w1 ⟨rfl, rfl⟩
      rw [HPO.out]
      go_wp2_with fail
      refine (pnumber_own N (by omega) p HP.out wr).mono ?_
      rintro e w1 ⟨vv, rfl, hwn, hb⟩
      obtain ⟨S, cs, rfl, hbs⟩ := bs_of_own hwn (by rw [← HP.out]; exact numB_lt N)
      have HTY := Lib.hid (tyb_of_own hwn)
      clear hwn
      have HBS := Lib.hid hbs
      have HB1 := Lib.hid hb
      have HO1 := Lib.hid (own_below HO.out hb)
      have hs1 : w.heap.size ≤ w1.heap.size := Nat.le_trans hsz hb.size
      have HV1 := Lib.hid (fun q hq => And.intro ((HV.out q hq).1.next hb) ((HV.out q hq).2.next hb))
      have HBL1 := Lib.hid (HBL.out.trans (hb.mono hsz))
      clear hbs hb
      go_wp2_with (at_builtin; refine wpList_append_field rfl (.tmp 32) (.tmp 36) rfl w1 w.heap.size k u6 M ⟨⟨(t : Int), p⟩, S, cs⟩ rfl HO1.out w1.heap.size rfl rfl (by omega) hs1 ?_; intro v3 w3 hown3 hg3)
      have hge : ∀ g, u6.ownBlock = some g → w.heap.size ≤ g := fun g hg => own_ge HO1.out hg
      have hb3 : Below w.heap.size w w3 := HBL1.out.grown hg3 hs1 hge
      have HB3 := Lib.hid hb3
      have HO3 := Lib.hid hown3
      have HV3 := Lib.hid (show ∀ q ∈ M ++ [(⟨⟨(t : Int), p⟩, S, cs⟩ : TV)], TyB w3 q.S ∧ Bs w3 w3.heap.size q.f.val q.S q.c from fun q hq => by
        rcases List.mem_append.1 hq with h | h
        · exact bs_grown (HV1.out q h).1 (HV1.out q h).2 HO1.out hg3
        · rw [List.mem_singleton] at h
          subst h
          exact bs_grown HTY.out HBS.out HO1.out hg3)
      clear hown3 hg3 hge hb3 HO1 HV1
      go_wp2
      go_roundw
      case rel => exact ⟨k + 1, M ++ [⟨⟨(t : Int), p⟩, S, cs⟩], by omega, by go_num, by rw [List.map_append]; exact HSN.out.symm, HO3.out, HV3.out, HB3.out⟩
      case measure => simp [intOf]; omega
    · have e : k = n := by omega
      have e2 : ts.take k = ts := List.take_of_length_le (by rw [← HN.out]; omega)
      have hmp := HMP.out
      rw [e2] at hmp
      obtain ⟨A2, c2, e3, hts⟩ := ts_of_own HO.out (fun q hq => (HV.out q hq).2)
      rw [hmp] at hts
      have HTS := Lib.hid hts
      subst e
      clear e2 hmp hts hlt
      subst e3
      go_wp2
      go_ret2
      exact ⟨A2, c2, rfl, HTS.out, HBL.out⟩
end Go.Proofs.YtaokhkbfiplfmaaDoor
end
section
namespace Go.Proofs.YtaokhkbfiplfmaaDoor
set_option linter.unusedVariables false
open Go.ChangeShapes Go.WideShapes Go.ChangeAt Go.RowKit

theorem ptellsu_any (r : Rg) (X : Nat) (b : Bool) (hb : (r.t.kind == 4) = b) (w : World) (hX : FBox w X (rgL r)) : Calls Tryd.prog 22 #[.pointer (some ⟨X, 0, none⟩)] w fun e w' => e = .returned (.bool b) ∧ w = w' := by
  have hc := hX.cells.2.1
  clear hX
  cases b with
  | false =>
    go_enter Tryd.func22, Tryd.ntmps22
    go_wp2
    go_ret
    exact ⟨rfl, rfl⟩
  | true =>
    go_enter Tryd.func22, Tryd.ntmps22
    go_wp2
    go_ret
    exact ⟨rfl, rfl⟩
end Go.Proofs.YtaokhkbfiplfmaaDoor
end
section
namespace Go.Proofs.YtaokhkbfiplfmaaDoor
set_option linter.unusedVariables false
open Go.ChangeShapes Go.WideShapes Go.ChangeAt Go.RowKit

theorem fbox_new (w : World) (l : List Int) (cs : Array Value) (h : cs.toList = l.map fun x => Value.int .i64 x) : FBox (w.alloc (.cells cs 56)) w.heap.size l := by
  have e : cs = (l.map fun x => Value.int .i64 x).toArray := by rw [← h]
  rw [e]
  exact heap_alloc_new w _
theorem num_at {a : List Int} (h : ∀ x ∈ a, 0 ≤ x ∧ x ≤ 1099511627776) (i : Nat) : 0 ≤ a.getD i 0 ∧ a.getD i 0 ≤ 1099511627776 := by
  rw [List.getD_eq_getElem?_getD]
  cases hx : a[i]? with
  | none => exact ⟨by simp, by simp⟩
  | some x => exact h x (List.mem_of_getElem? hx)
end Go.Proofs.YtaokhkbfiplfmaaDoor
end
section
namespace Go.Proofs.YtaokhkbfiplfmaaDoor
set_option linter.unusedVariables false
open Go.ChangeShapes Go.WideShapes Go.ChangeAt Go.RowKit

set_option maxRecDepth 100000 in
set_option maxHeartbeats 1600000 in
theorem fput_p1 (r : Rg) (E : Nat) (p : List Tf) (hE : fdPut r = (E, p)) (w : World) (h1 : okT r.t = false) : Calls Tryd.prog 11 #[.agg #[.int .i64 r.t.ser, .int .i64 r.t.kind, .int .i64 r.t.frm, .int .i64 r.t.till, .int .i64 r.t.cls, .int .i64 r.t.card, .int .i64 r.t.seat, .int .i64 r.t.day, .int .i64 r.t.days, .int .i64 r.t.uses, .int .i64 r.t.epoch, .int .i64 r.key, .int .i64 r.left, .int .i64 r.inn, .int .i64 r.ver]] w fun e w' => ∃ A c, e = .returned (.tuple #[.slice A (p.length : Nat) c, .int .i64 (E : Int)]) ∧ Ts w' w'.heap.size p A c ∧ Below w.heap.size w w' := by
  obtain ⟨rfl, rfl⟩ : E = 1 ∧ p = [] := by have := hE; rw [fdPut_arg (by rw [argF, h1]; rfl)] at this; exact ⟨(Prod.mk.inj this).1.symm, (Prod.mk.inj this).2.symm⟩
  clear hE
  have H1 := Lib.hid h1
  clear h1
  obtain ⟨w0, hw0⟩ : ∃ w0, w0 = w.alloc (.cells #[.int .i64 r.t.ser, .int .i64 r.t.kind, .int .i64 r.t.frm, .int .i64 r.t.till, .int .i64 r.t.cls, .int .i64 r.t.card, .int .i64 r.t.seat, .int .i64 r.t.day, .int .i64 r.t.days, .int .i64 r.t.uses, .int .i64 r.t.epoch, .int .i64 r.key, .int .i64 r.left, .int .i64 r.inn, .int .i64 r.ver] 35) := ⟨_, rfl⟩
  have HX : Hid (RBox w0 w.heap.size r) := Lib.hid (by rw [hw0]; exact RBox.new w r)
  have HBL : Hid (Below w.heap.size w w0) := Lib.hid (by rw [hw0]; exact below_lit w _ _)
  have HW := Lib.hid hw0
  clear hw0
  go_enter Tryd.func11, Tryd.ntmps11
  go_wp2_with fail
  rw [← HW.out]
  obtain ⟨e0, e1, e2, e3, e4, e5, e6, e7, e8, e9, e10, e11, e12, e13, e14⟩ := HX.out.cells
  go_wp2_with (first | (go_at_call 17; refine (pis9_any r.t _ H1.out _).mono ?_; rintro e w1 ⟨rfl, hb⟩; clear e0 e1 e2 e3 e4 e5 e6 e7 e8 e9 e10 e11 e12 e13 e14; have HX1 := Lib.hid (HX.out.next hb); have HBL1 := Lib.hid (HBL.out.trans (hb.mono HBL.out.size)); clear hb; obtain ⟨c0, c1, c2, c3, c4, c5, c6, c7, c8, c9, c10, c11, c12, c13, c14⟩ := HX1.out.cells))
  go_ret2
  exact ⟨none, 0, rfl, Ts.empty _ _, HBL1.out⟩
set_option maxRecDepth 100000 in
set_option maxHeartbeats 1600000 in
theorem fput_p2 (r : Rg) (E : Nat) (p : List Tf) (hE : fdPut r = (E, p)) (w : World) (h1 : okT r.t = true) (h2 : (decide (0 ≤ r.key) && decide (r.key ≤ 99)) = false) : Calls Tryd.prog 11 #[.agg #[.int .i64 r.t.ser, .int .i64 r.t.kind, .int .i64 r.t.frm, .int .i64 r.t.till, .int .i64 r.t.cls, .int .i64 r.t.card, .int .i64 r.t.seat, .int .i64 r.t.day, .int .i64 r.t.days, .int .i64 r.t.uses, .int .i64 r.t.epoch, .int .i64 r.key, .int .i64 r.left, .int .i64 r.inn, .int .i64 r.ver]] w fun e w' => ∃ A c, e = .returned (.tuple #[.slice A (p.length : Nat) c, .int .i64 (E : Int)]) ∧ Ts w' w'.heap.size p A c ∧ Below w.heap.size w w' := by
  obtain ⟨rfl, rfl⟩ : E = 1 ∧ p = [] := by have := hE; rw [fdPut_arg (by cases h : argF r with | false => rfl | true => (have := (argF_iff r).1 h; simp at h2; omega))] at this; exact ⟨(Prod.mk.inj this).1.symm, (Prod.mk.inj this).2.symm⟩
  clear hE
  have H1 := Lib.hid h1
  have H2 := Lib.hid h2
  clear h1 h2
  obtain ⟨w0, hw0⟩ : ∃ w0, w0 = w.alloc (.cells #[.int .i64 r.t.ser, .int .i64 r.t.kind, .int .i64 r.t.frm, .int .i64 r.t.till, .int .i64 r.t.cls, .int .i64 r.t.card, .int .i64 r.t.seat, .int .i64 r.t.day, .int .i64 r.t.days, .int .i64 r.t.uses, .int .i64 r.t.epoch, .int .i64 r.key, .int .i64 r.left, .int .i64 r.inn, .int .i64 r.ver] 35) := ⟨_, rfl⟩
  have HX : Hid (RBox w0 w.heap.size r) := Lib.hid (by rw [hw0]; exact RBox.new w r)
  have HBL : Hid (Below w.heap.size w w0) := Lib.hid (by rw [hw0]; exact below_lit w _ _)
  have HW := Lib.hid hw0
  clear hw0
  go_enter Tryd.func11, Tryd.ntmps11
  go_wp2_with fail
  rw [← HW.out]
  obtain ⟨e0, e1, e2, e3, e4, e5, e6, e7, e8, e9, e10, e11, e12, e13, e14⟩ := HX.out.cells
  go_wp2_with (first | (go_at_call 17; refine (pis9_any r.t _ H1.out _).mono ?_; rintro e w1 ⟨rfl, hb⟩; clear e0 e1 e2 e3 e4 e5 e6 e7 e8 e9 e10 e11 e12 e13 e14; have HX1 := Lib.hid (HX.out.next hb); have HBL1 := Lib.hid (HBL.out.trans (hb.mono HBL.out.size)); clear hb; obtain ⟨c0, c1, c2, c3, c4, c5, c6, c7, c8, c9, c10, c11, c12, c13, c14⟩ := HX1.out.cells) | (go_at_call 20; refine (pkey_any r.key _ H2.out _).mono ?_; rintro e w2 ⟨rfl, rfl⟩))
  go_ret2
  exact ⟨none, 0, rfl, Ts.empty _ _, HBL1.out⟩
set_option maxRecDepth 100000 in
set_option maxHeartbeats 1600000 in
theorem fput_p3a (r : Rg) (E : Nat) (p : List Tf) (hE : fdPut r = (E, p)) (w : World) (h1 : okT r.t = true) (h2 : (decide (0 ≤ r.key) && decide (r.key ≤ 99)) = true) (h3 : r.left ≠ 0) : Calls Tryd.prog 11 #[.agg #[.int .i64 r.t.ser, .int .i64 r.t.kind, .int .i64 r.t.frm, .int .i64 r.t.till, .int .i64 r.t.cls, .int .i64 r.t.card, .int .i64 r.t.seat, .int .i64 r.t.day, .int .i64 r.t.days, .int .i64 r.t.uses, .int .i64 r.t.epoch, .int .i64 r.key, .int .i64 r.left, .int .i64 r.inn, .int .i64 r.ver]] w fun e w' => ∃ A c, e = .returned (.tuple #[.slice A (p.length : Nat) c, .int .i64 (E : Int)]) ∧ Ts w' w'.heap.size p A c ∧ Below w.heap.size w w' := by
  obtain ⟨rfl, rfl⟩ : E = 1 ∧ p = [] := by have := hE; rw [fdPut_arg (by cases h : argF r with | false => rfl | true => (have := (argF_iff r).1 h; omega))] at this; exact ⟨(Prod.mk.inj this).1.symm, (Prod.mk.inj this).2.symm⟩
  clear hE
  have H1 := Lib.hid h1
  have H2 := Lib.hid h2
  have q3 : (r.left == 0) = false := by rw [beq_eq_false_iff_ne]; exact h3
  clear h1 h2 h3
  obtain ⟨w0, hw0⟩ : ∃ w0, w0 = w.alloc (.cells #[.int .i64 r.t.ser, .int .i64 r.t.kind, .int .i64 r.t.frm, .int .i64 r.t.till, .int .i64 r.t.cls, .int .i64 r.t.card, .int .i64 r.t.seat, .int .i64 r.t.day, .int .i64 r.t.days, .int .i64 r.t.uses, .int .i64 r.t.epoch, .int .i64 r.key, .int .i64 r.left, .int .i64 r.inn, .int .i64 r.ver] 35) := ⟨_, rfl⟩
  have HX : Hid (RBox w0 w.heap.size r) := Lib.hid (by rw [hw0]; exact RBox.new w r)
  have HBL : Hid (Below w.heap.size w w0) := Lib.hid (by rw [hw0]; exact below_lit w _ _)
  have HW := Lib.hid hw0
  clear hw0
  go_enter Tryd.func11, Tryd.ntmps11
  go_wp2_with fail
  rw [← HW.out]
  obtain ⟨e0, e1, e2, e3, e4, e5, e6, e7, e8, e9, e10, e11, e12, e13, e14⟩ := HX.out.cells
  go_wp2_with (first | (go_at_call 17; refine (pis9_any r.t _ H1.out _).mono ?_; rintro e w1 ⟨rfl, hb⟩; clear e0 e1 e2 e3 e4 e5 e6 e7 e8 e9 e10 e11 e12 e13 e14; have HX1 := Lib.hid (HX.out.next hb); have HBL1 := Lib.hid (HBL.out.trans (hb.mono HBL.out.size)); clear hb; obtain ⟨c0, c1, c2, c3, c4, c5, c6, c7, c8, c9, c10, c11, c12, c13, c14⟩ := HX1.out.cells) | (go_at_call 20; refine (pkey_any r.key _ H2.out _).mono ?_; rintro e w2 ⟨rfl, rfl⟩))
  go_ret2
  exact ⟨none, 0, rfl, Ts.empty _ _, HBL1.out⟩
set_option maxRecDepth 100000 in
set_option maxHeartbeats 1600000 in
theorem fput_p3b (r : Rg) (E : Nat) (p : List Tf) (hE : fdPut r = (E, p)) (w : World) (h1 : okT r.t = true) (h2 : (decide (0 ≤ r.key) && decide (r.key ≤ 99)) = true) (h3 : r.left = 0) (h4 : r.inn ≠ 0) : Calls Tryd.prog 11 #[.agg #[.int .i64 r.t.ser, .int .i64 r.t.kind, .int .i64 r.t.frm, .int .i64 r.t.till, .int .i64 r.t.cls, .int .i64 r.t.card, .int .i64 r.t.seat, .int .i64 r.t.day, .int .i64 r.t.days, .int .i64 r.t.uses, .int .i64 r.t.epoch, .int .i64 r.key, .int .i64 r.left, .int .i64 r.inn, .int .i64 r.ver]] w fun e w' => ∃ A c, e = .returned (.tuple #[.slice A (p.length : Nat) c, .int .i64 (E : Int)]) ∧ Ts w' w'.heap.size p A c ∧ Below w.heap.size w w' := by
  obtain ⟨rfl, rfl⟩ : E = 1 ∧ p = [] := by have := hE; rw [fdPut_arg (by cases h : argF r with | false => rfl | true => (have := (argF_iff r).1 h; omega))] at this; exact ⟨(Prod.mk.inj this).1.symm, (Prod.mk.inj this).2.symm⟩
  clear hE
  have H1 := Lib.hid h1
  have H2 := Lib.hid h2
  have q3 : (r.left == 0) = true := by rw [beq_iff_eq]; exact h3
  have q4 : (r.inn == 0) = false := by rw [beq_eq_false_iff_ne]; exact h4
  clear h1 h2 h3 h4
  obtain ⟨w0, hw0⟩ : ∃ w0, w0 = w.alloc (.cells #[.int .i64 r.t.ser, .int .i64 r.t.kind, .int .i64 r.t.frm, .int .i64 r.t.till, .int .i64 r.t.cls, .int .i64 r.t.card, .int .i64 r.t.seat, .int .i64 r.t.day, .int .i64 r.t.days, .int .i64 r.t.uses, .int .i64 r.t.epoch, .int .i64 r.key, .int .i64 r.left, .int .i64 r.inn, .int .i64 r.ver] 35) := ⟨_, rfl⟩
  have HX : Hid (RBox w0 w.heap.size r) := Lib.hid (by rw [hw0]; exact RBox.new w r)
  have HBL : Hid (Below w.heap.size w w0) := Lib.hid (by rw [hw0]; exact below_lit w _ _)
  have HW := Lib.hid hw0
  clear hw0
  go_enter Tryd.func11, Tryd.ntmps11
  go_wp2_with fail
  rw [← HW.out]
  obtain ⟨e0, e1, e2, e3, e4, e5, e6, e7, e8, e9, e10, e11, e12, e13, e14⟩ := HX.out.cells
  go_wp2_with (first | (go_at_call 17; refine (pis9_any r.t _ H1.out _).mono ?_; rintro e w1 ⟨rfl, hb⟩; clear e0 e1 e2 e3 e4 e5 e6 e7 e8 e9 e10 e11 e12 e13 e14; have HX1 := Lib.hid (HX.out.next hb); have HBL1 := Lib.hid (HBL.out.trans (hb.mono HBL.out.size)); clear hb; obtain ⟨c0, c1, c2, c3, c4, c5, c6, c7, c8, c9, c10, c11, c12, c13, c14⟩ := HX1.out.cells) | (go_at_call 20; refine (pkey_any r.key _ H2.out _).mono ?_; rintro e w2 ⟨rfl, rfl⟩))
  go_ret2
  exact ⟨none, 0, rfl, Ts.empty _ _, HBL1.out⟩
set_option maxRecDepth 100000 in
set_option maxHeartbeats 1600000 in
theorem fput_p4 (r : Rg) (E : Nat) (p : List Tf) (hE : fdPut r = (E, p)) (w : World) (h1 : okT r.t = true) (h2 : (decide (0 ≤ r.key) && decide (r.key ≤ 99)) = true) (h3 : r.left = 0) (h4 : r.inn = 0) (h5 : (decide (1 ≤ r.ver) && decide (r.ver ≤ 3)) = false) : Calls Tryd.prog 11 #[.agg #[.int .i64 r.t.ser, .int .i64 r.t.kind, .int .i64 r.t.frm, .int .i64 r.t.till, .int .i64 r.t.cls, .int .i64 r.t.card, .int .i64 r.t.seat, .int .i64 r.t.day, .int .i64 r.t.days, .int .i64 r.t.uses, .int .i64 r.t.epoch, .int .i64 r.key, .int .i64 r.left, .int .i64 r.inn, .int .i64 r.ver]] w fun e w' => ∃ A c, e = .returned (.tuple #[.slice A (p.length : Nat) c, .int .i64 (E : Int)]) ∧ Ts w' w'.heap.size p A c ∧ Below w.heap.size w w' := by
  obtain ⟨rfl, rfl⟩ : E = 1 ∧ p = [] := by have := hE; rw [fdPut_arg (by cases h : argF r with | false => rfl | true => (have := (argF_iff r).1 h; simp at h5; omega))] at this; exact ⟨(Prod.mk.inj this).1.symm, (Prod.mk.inj this).2.symm⟩
  clear hE
  have H1 := Lib.hid h1
  have H2 := Lib.hid h2
  have H3 := Lib.hid h5
  have q3 : (r.left == 0) = true := by rw [beq_iff_eq]; exact h3
  have q4 : (r.inn == 0) = true := by rw [beq_iff_eq]; exact h4
  clear h1 h2 h3 h4 h5
  obtain ⟨w0, hw0⟩ : ∃ w0, w0 = w.alloc (.cells #[.int .i64 r.t.ser, .int .i64 r.t.kind, .int .i64 r.t.frm, .int .i64 r.t.till, .int .i64 r.t.cls, .int .i64 r.t.card, .int .i64 r.t.seat, .int .i64 r.t.day, .int .i64 r.t.days, .int .i64 r.t.uses, .int .i64 r.t.epoch, .int .i64 r.key, .int .i64 r.left, .int .i64 r.inn, .int .i64 r.ver] 35) := ⟨_, rfl⟩
  have HX : Hid (RBox w0 w.heap.size r) := Lib.hid (by rw [hw0]; exact RBox.new w r)
  have HBL : Hid (Below w.heap.size w w0) := Lib.hid (by rw [hw0]; exact below_lit w _ _)
  have HW := Lib.hid hw0
  clear hw0
  go_enter Tryd.func11, Tryd.ntmps11
  go_wp2_with fail
  rw [← HW.out]
  obtain ⟨e0, e1, e2, e3, e4, e5, e6, e7, e8, e9, e10, e11, e12, e13, e14⟩ := HX.out.cells
  go_wp2_with (first | (go_at_call 17; refine (pis9_any r.t _ H1.out _).mono ?_; rintro e w1 ⟨rfl, hb⟩; clear e0 e1 e2 e3 e4 e5 e6 e7 e8 e9 e10 e11 e12 e13 e14; have HX1 := Lib.hid (HX.out.next hb); have HBL1 := Lib.hid (HBL.out.trans (hb.mono HBL.out.size)); clear hb; obtain ⟨c0, c1, c2, c3, c4, c5, c6, c7, c8, c9, c10, c11, c12, c13, c14⟩ := HX1.out.cells) | (go_at_call 20; refine (pkey_any r.key _ H2.out _).mono ?_; rintro e w2 ⟨rfl, rfl⟩) | (go_at_call 21; refine (pversion_any r.ver _ H3.out _).mono ?_; rintro e w2 ⟨rfl, rfl⟩))
  go_ret2
  exact ⟨none, 0, rfl, Ts.empty _ _, HBL1.out⟩
set_option maxRecDepth 100000 in
set_option maxHeartbeats 1600000 in
theorem fput_5c (r : Rg) (E : Nat) (p : List Tf) (hE : fdPut r = (E, p)) (w : World) (ha : argF r = true) (hk : r.t.kind = 4) (hf : fitX r.ver (tagsF 1 (numL (cutU r))) = false) : Calls Tryd.prog 11 #[.agg #[.int .i64 r.t.ser, .int .i64 r.t.kind, .int .i64 r.t.frm, .int .i64 r.t.till, .int .i64 r.t.cls, .int .i64 r.t.card, .int .i64 r.t.seat, .int .i64 r.t.day, .int .i64 r.t.days, .int .i64 r.t.uses, .int .i64 r.t.epoch, .int .i64 r.key, .int .i64 r.left, .int .i64 r.inn, .int .i64 r.ver]] w fun e w' => ∃ A c, e = .returned (.tuple #[.slice A (p.length : Nat) c, .int .i64 (E : Int)]) ∧ Ts w' w'.heap.size p A c ∧ Below w.heap.size w w' := by
  obtain ⟨rfl, rfl⟩ : E = 18 ∧ p = [] := by have := hE; rw [fdPut_fit ha hf] at this; exact ⟨(Prod.mk.inj this).1.symm, (Prod.mk.inj this).2.symm⟩
  clear hE
  have hmf : ∀ (fn : Fn) (first cap : Array Value) (w : World), (Instr.makeFunc fn first cap).run Tryd.prog w = .ok (.func fn first cap) w := fun _ _ _ _ => rfl
  obtain ⟨h1, h2, h3, h4, h5, h6, h7⟩ := (argF_iff r).1 ha
  have H1 := Lib.hid h1
  have H2 := Lib.hid (show (decide (0 ≤ r.key) && decide (r.key ≤ 99)) = true by rw [decide_eq_true h2, decide_eq_true h3]; rfl)
  have H3 := Lib.hid (show (decide (1 ≤ r.ver) && decide (r.ver ≤ 3)) = true by rw [decide_eq_true h6, decide_eq_true h7]; rfl)
  have q3 : (r.left == 0) = true := by rw [beq_iff_eq]; exact h4
  have q4 : (r.inn == 0) = true := by rw [beq_iff_eq]; exact h5
  have HK := Lib.hid (show (r.t.kind == 4) = true by rw [beq_iff_eq]; exact hk)
  have HC := Lib.hid (show cutU r = r by rw [cutU, if_pos hk])
  have HIN := Lib.hid (num_in ha)
  obtain ⟨q, hq⟩ : ∃ q, q = cutU r := ⟨_, rfl⟩
  rw [← hq] at hf HC HIN
  try rw [← hq]
  have hqv : q.ver = r.ver := by rw [hq, cut_ver]
  rw [← hqv] at hf
  obtain ⟨n, hn⟩ : ∃ n, n = (tagsF 1 (numL q)).length := ⟨_, rfl⟩
  have HN := Lib.hid hn
  have HF := Lib.hid hf
  have hn13 : n ≤ 13 := by rw [hn]; exact Nat.le_trans (tagsF_len _ _) (by rw [numL_len]; omega)
  have HTS := Lib.hid (show ∀ t ∈ tagsF 1 (numL q), 1 ≤ t ∧ t ≤ 13 from fun t ht => by have := tagsF_mem _ _ _ ht; rw [numL_len] at this; omega)
  have HTX := Lib.hid (show ∀ t ∈ tagsF 1 (numL q), 1 ≤ t ∧ t ≤ 13 ∧ 0 ≤ (numL q).getD (t - 1) 0 ∧ (numL q).getD (t - 1) 0 < 9223372036854775808 from fun t ht => by have h1 := HTS.out t ht; have h2 := num_at HIN.out (t - 1); omega)
  have HLN := Lib.hid (show (fldF 1 (numL q)).length = n by rw [fldF_len]; exact hn.symm)
  clear h1 h2 h3 h4 h5 h6 h7 ha hk hf hq hqv hn
  obtain ⟨w0, hw0⟩ : ∃ w0, w0 = w.alloc (.cells #[.int .i64 r.t.ser, .int .i64 r.t.kind, .int .i64 r.t.frm, .int .i64 r.t.till, .int .i64 r.t.cls, .int .i64 r.t.card, .int .i64 r.t.seat, .int .i64 r.t.day, .int .i64 r.t.days, .int .i64 r.t.uses, .int .i64 r.t.epoch, .int .i64 r.key, .int .i64 r.left, .int .i64 r.inn, .int .i64 r.ver] 35) := ⟨_, rfl⟩
  have HX : Hid (RBox w0 w.heap.size r) := Lib.hid (by rw [hw0]; exact RBox.new w r)
  have HBL : Hid (Below w.heap.size w w0) := Lib.hid (by rw [hw0]; exact below_lit w _ _)
  have HW := Lib.hid hw0
  clear hw0
  go_enter Tryd.func11, Tryd.ntmps11
  go_wp2_with fail
  rw [← HW.out]
  obtain ⟨e0, e1, e2, e3, e4, e5, e6, e7, e8, e9, e10, e11, e12, e13, e14⟩ := HX.out.cells
  go_wp2_with (first | (go_at_call 17; refine (pis9_any r.t _ H1.out _).mono ?_; rintro e w1 ⟨rfl, hb⟩; clear e0 e1 e2 e3 e4 e5 e6 e7 e8 e9 e10 e11 e12 e13 e14; have HX1 := Lib.hid (HX.out.next hb); have HBL1 := Lib.hid (HBL.out.trans (hb.mono HBL.out.size)); clear hb; obtain ⟨c0, c1, c2, c3, c4, c5, c6, c7, c8, c9, c10, c11, c12, c13, c14⟩ := HX1.out.cells) | (go_at_call 20; refine (pkey_any r.key _ H2.out _).mono ?_; rintro e w2 ⟨rfl, rfl⟩) | (go_at_call 21; refine (pversion_any r.ver _ H3.out _).mono ?_; rintro e w2 ⟨rfl, rfl⟩))
  refine (ptellsu_any r w1.heap.size _ HK.out _ (heap_alloc_new w1 _)).mono ?_
  rintro e w2 ⟨rfl, rfl⟩
  go_wp2_with fail
  have HF0 := Lib.hid (fbox_new w1 (rgL q) (List.map (fun x => Value.int .i64 x) (rgL r)).toArray (by rw [HC.out] <;> rfl))
  have HB3 := Lib.hid (below_lit w1 (List.map (fun x => Value.int .i64 x) (rgL r)).toArray 56)
  have hs3 := HB3.out.size
  refine (ptags_any q w1.heap.size n HN.out _ HF0.out).mono ?_
  rintro e w4 ⟨A4, k4, rfl, hz, hb⟩
  have HZ := Lib.hid hz
  have HFB := Lib.hid (HF0.out.next hb)
  have HBL4 := Lib.hid (HBL1.out.trans ((HB3.out.trans (hb.mono hs3)).mono HBL1.out.size))
  clear hb hz HF0 HB3 hs3 c0 c1 c2 c3 c4 c5 c6 c7 c8 c9 c10 c11 c12 c13 c14
  obtain ⟨d0, d1, d2, d3, d4, d5, d6, d7, d8, d9, d10, d11, d12, d13, d14⟩ := HFB.out.cells
  go_wp2_with fail
  refine (ptells_any q.ver _ n HN.out HTS.out _ HF.out A4 k4 w4 HZ.out).mono ?_
  rintro e w5 ⟨rfl, rfl⟩
  go_wp2
  go_ret2
  exact ⟨none, 0, rfl, Ts.empty _ _, HBL4.out⟩
set_option maxRecDepth 100000 in
set_option maxHeartbeats 1600000 in
theorem fput_5n (r : Rg) (E : Nat) (p : List Tf) (hE : fdPut r = (E, p)) (w : World) (ha : argF r = true) (hk : r.t.kind ≠ 4) (hf : fitX r.ver (tagsF 1 (numL (cutU r))) = false) : Calls Tryd.prog 11 #[.agg #[.int .i64 r.t.ser, .int .i64 r.t.kind, .int .i64 r.t.frm, .int .i64 r.t.till, .int .i64 r.t.cls, .int .i64 r.t.card, .int .i64 r.t.seat, .int .i64 r.t.day, .int .i64 r.t.days, .int .i64 r.t.uses, .int .i64 r.t.epoch, .int .i64 r.key, .int .i64 r.left, .int .i64 r.inn, .int .i64 r.ver]] w fun e w' => ∃ A c, e = .returned (.tuple #[.slice A (p.length : Nat) c, .int .i64 (E : Int)]) ∧ Ts w' w'.heap.size p A c ∧ Below w.heap.size w w' := by
  obtain ⟨rfl, rfl⟩ : E = 18 ∧ p = [] := by have := hE; rw [fdPut_fit ha hf] at this; exact ⟨(Prod.mk.inj this).1.symm, (Prod.mk.inj this).2.symm⟩
  clear hE
  have hmf : ∀ (fn : Fn) (first cap : Array Value) (w : World), (Instr.makeFunc fn first cap).run Tryd.prog w = .ok (.func fn first cap) w := fun _ _ _ _ => rfl
  obtain ⟨h1, h2, h3, h4, h5, h6, h7⟩ := (argF_iff r).1 ha
  have H1 := Lib.hid h1
  have H2 := Lib.hid (show (decide (0 ≤ r.key) && decide (r.key ≤ 99)) = true by rw [decide_eq_true h2, decide_eq_true h3]; rfl)
  have H3 := Lib.hid (show (decide (1 ≤ r.ver) && decide (r.ver ≤ 3)) = true by rw [decide_eq_true h6, decide_eq_true h7]; rfl)
  have q3 : (r.left == 0) = true := by rw [beq_iff_eq]; exact h4
  have q4 : (r.inn == 0) = true := by rw [beq_iff_eq]; exact h5
  have HK := Lib.hid (show (r.t.kind == 4) = false by rw [beq_eq_false_iff_ne]; exact hk)
  have HC := Lib.hid (show cutU r = { r with t := { r.t with uses := 0 } } by rw [cutU, if_neg hk])
  have HIN := Lib.hid (num_in ha)
  obtain ⟨q, hq⟩ : ∃ q, q = cutU r := ⟨_, rfl⟩
  rw [← hq] at hf HC HIN
  try rw [← hq]
  have hqv : q.ver = r.ver := by rw [hq, cut_ver]
  rw [← hqv] at hf
  obtain ⟨n, hn⟩ : ∃ n, n = (tagsF 1 (numL q)).length := ⟨_, rfl⟩
  have HN := Lib.hid hn
  have HF := Lib.hid hf
  have hn13 : n ≤ 13 := by rw [hn]; exact Nat.le_trans (tagsF_len _ _) (by rw [numL_len]; omega)
  have HTS := Lib.hid (show ∀ t ∈ tagsF 1 (numL q), 1 ≤ t ∧ t ≤ 13 from fun t ht => by have := tagsF_mem _ _ _ ht; rw [numL_len] at this; omega)
  have HTX := Lib.hid (show ∀ t ∈ tagsF 1 (numL q), 1 ≤ t ∧ t ≤ 13 ∧ 0 ≤ (numL q).getD (t - 1) 0 ∧ (numL q).getD (t - 1) 0 < 9223372036854775808 from fun t ht => by have h1 := HTS.out t ht; have h2 := num_at HIN.out (t - 1); omega)
  have HLN := Lib.hid (show (fldF 1 (numL q)).length = n by rw [fldF_len]; exact hn.symm)
  clear h1 h2 h3 h4 h5 h6 h7 ha hk hf hq hqv hn
  obtain ⟨w0, hw0⟩ : ∃ w0, w0 = w.alloc (.cells #[.int .i64 r.t.ser, .int .i64 r.t.kind, .int .i64 r.t.frm, .int .i64 r.t.till, .int .i64 r.t.cls, .int .i64 r.t.card, .int .i64 r.t.seat, .int .i64 r.t.day, .int .i64 r.t.days, .int .i64 r.t.uses, .int .i64 r.t.epoch, .int .i64 r.key, .int .i64 r.left, .int .i64 r.inn, .int .i64 r.ver] 35) := ⟨_, rfl⟩
  have HX : Hid (RBox w0 w.heap.size r) := Lib.hid (by rw [hw0]; exact RBox.new w r)
  have HBL : Hid (Below w.heap.size w w0) := Lib.hid (by rw [hw0]; exact below_lit w _ _)
  have HW := Lib.hid hw0
  clear hw0
  go_enter Tryd.func11, Tryd.ntmps11
  go_wp2_with fail
  rw [← HW.out]
  obtain ⟨e0, e1, e2, e3, e4, e5, e6, e7, e8, e9, e10, e11, e12, e13, e14⟩ := HX.out.cells
  go_wp2_with (first | (go_at_call 17; refine (pis9_any r.t _ H1.out _).mono ?_; rintro e w1 ⟨rfl, hb⟩; clear e0 e1 e2 e3 e4 e5 e6 e7 e8 e9 e10 e11 e12 e13 e14; have HX1 := Lib.hid (HX.out.next hb); have HBL1 := Lib.hid (HBL.out.trans (hb.mono HBL.out.size)); clear hb; obtain ⟨c0, c1, c2, c3, c4, c5, c6, c7, c8, c9, c10, c11, c12, c13, c14⟩ := HX1.out.cells) | (go_at_call 20; refine (pkey_any r.key _ H2.out _).mono ?_; rintro e w2 ⟨rfl, rfl⟩) | (go_at_call 21; refine (pversion_any r.ver _ H3.out _).mono ?_; rintro e w2 ⟨rfl, rfl⟩))
  refine (ptellsu_any r w1.heap.size _ HK.out _ (heap_alloc_new w1 _)).mono ?_
  rintro e w2 ⟨rfl, rfl⟩
  go_wp2_with fail
  have HF0 := Lib.hid (fbox_new w1 (rgL q) ((List.map (fun x => Value.int .i64 x) (rgL r)).set 9 (.int .i64 0)).toArray (by rw [HC.out] <;> rfl))
  have HB3 := Lib.hid (below_lit w1 ((List.map (fun x => Value.int .i64 x) (rgL r)).set 9 (.int .i64 0)).toArray 56)
  have hs3 := HB3.out.size
  refine (ptags_any q w1.heap.size n HN.out _ HF0.out).mono ?_
  rintro e w4 ⟨A4, k4, rfl, hz, hb⟩
  have HZ := Lib.hid hz
  have HFB := Lib.hid (HF0.out.next hb)
  have HBL4 := Lib.hid (HBL1.out.trans ((HB3.out.trans (hb.mono hs3)).mono HBL1.out.size))
  clear hb hz HF0 HB3 hs3 c0 c1 c2 c3 c4 c5 c6 c7 c8 c9 c10 c11 c12 c13 c14
  obtain ⟨d0, d1, d2, d3, d4, d5, d6, d7, d8, d9, d10, d11, d12, d13, d14⟩ := HFB.out.cells
  go_wp2_with fail
  refine (ptells_any q.ver _ n HN.out HTS.out _ HF.out A4 k4 w4 HZ.out).mono ?_
  rintro e w5 ⟨rfl, rfl⟩
  go_wp2
  go_ret2
  exact ⟨none, 0, rfl, Ts.empty _ _, HBL4.out⟩
set_option maxRecDepth 100000 in
set_option maxHeartbeats 1600000 in
theorem fput_6c (r : Rg) (E : Nat) (p : List Tf) (hE : fdPut r = (E, p)) (w : World) (ha : argF r = true) (hk : r.t.kind = 4) (hf : fitX r.ver (tagsF 1 (numL (cutU r))) = true) : Calls Tryd.prog 11 #[.agg #[.int .i64 r.t.ser, .int .i64 r.t.kind, .int .i64 r.t.frm, .int .i64 r.t.till, .int .i64 r.t.cls, .int .i64 r.t.card, .int .i64 r.t.seat, .int .i64 r.t.day, .int .i64 r.t.days, .int .i64 r.t.uses, .int .i64 r.t.epoch, .int .i64 r.key, .int .i64 r.left, .int .i64 r.inn, .int .i64 r.ver]] w fun e w' => ∃ A c, e = .returned (.tuple #[.slice A (p.length : Nat) c, .int .i64 (E : Int)]) ∧ Ts w' w'.heap.size p A c ∧ Below w.heap.size w w' := by
  obtain ⟨rfl, rfl⟩ : E = 0 ∧ p = fldF 1 (numL (cutU r)) := by have := hE; rw [fdPut_ok ha hf] at this; exact ⟨(Prod.mk.inj this).1.symm, (Prod.mk.inj this).2.symm⟩
  clear hE
  have hmf : ∀ (fn : Fn) (first cap : Array Value) (w : World), (Instr.makeFunc fn first cap).run Tryd.prog w = .ok (.func fn first cap) w := fun _ _ _ _ => rfl
  obtain ⟨h1, h2, h3, h4, h5, h6, h7⟩ := (argF_iff r).1 ha
  have H1 := Lib.hid h1
  have H2 := Lib.hid (show (decide (0 ≤ r.key) && decide (r.key ≤ 99)) = true by rw [decide_eq_true h2, decide_eq_true h3]; rfl)
  have H3 := Lib.hid (show (decide (1 ≤ r.ver) && decide (r.ver ≤ 3)) = true by rw [decide_eq_true h6, decide_eq_true h7]; rfl)
  have q3 : (r.left == 0) = true := by rw [beq_iff_eq]; exact h4
  have q4 : (r.inn == 0) = true := by rw [beq_iff_eq]; exact h5
  have HK := Lib.hid (show (r.t.kind == 4) = true by rw [beq_iff_eq]; exact hk)
  have HC := Lib.hid (show cutU r = r by rw [cutU, if_pos hk])
  have HIN := Lib.hid (num_in ha)
  obtain ⟨q, hq⟩ : ∃ q, q = cutU r := ⟨_, rfl⟩
  rw [← hq] at hf HC HIN
  try rw [← hq]
  have hqv : q.ver = r.ver := by rw [hq, cut_ver]
  rw [← hqv] at hf
  obtain ⟨n, hn⟩ : ∃ n, n = (tagsF 1 (numL q)).length := ⟨_, rfl⟩
  have HN := Lib.hid hn
  have HF := Lib.hid hf
  have hn13 : n ≤ 13 := by rw [hn]; exact Nat.le_trans (tagsF_len _ _) (by rw [numL_len]; omega)
  have HTS := Lib.hid (show ∀ t ∈ tagsF 1 (numL q), 1 ≤ t ∧ t ≤ 13 from fun t ht => by have := tagsF_mem _ _ _ ht; rw [numL_len] at this; omega)
  have HTX := Lib.hid (show ∀ t ∈ tagsF 1 (numL q), 1 ≤ t ∧ t ≤ 13 ∧ 0 ≤ (numL q).getD (t - 1) 0 ∧ (numL q).getD (t - 1) 0 < 9223372036854775808 from fun t ht => by have h1 := HTS.out t ht; have h2 := num_at HIN.out (t - 1); omega)
  have HLN := Lib.hid (show (fldF 1 (numL q)).length = n by rw [fldF_len]; exact hn.symm)
  clear h1 h2 h3 h4 h5 h6 h7 ha hk hf hq hqv hn
  obtain ⟨w0, hw0⟩ : ∃ w0, w0 = w.alloc (.cells #[.int .i64 r.t.ser, .int .i64 r.t.kind, .int .i64 r.t.frm, .int .i64 r.t.till, .int .i64 r.t.cls, .int .i64 r.t.card, .int .i64 r.t.seat, .int .i64 r.t.day, .int .i64 r.t.days, .int .i64 r.t.uses, .int .i64 r.t.epoch, .int .i64 r.key, .int .i64 r.left, .int .i64 r.inn, .int .i64 r.ver] 35) := ⟨_, rfl⟩
  have HX : Hid (RBox w0 w.heap.size r) := Lib.hid (by rw [hw0]; exact RBox.new w r)
  have HBL : Hid (Below w.heap.size w w0) := Lib.hid (by rw [hw0]; exact below_lit w _ _)
  have HW := Lib.hid hw0
  clear hw0
  go_enter Tryd.func11, Tryd.ntmps11
  go_wp2_with fail
  rw [← HW.out]
  obtain ⟨e0, e1, e2, e3, e4, e5, e6, e7, e8, e9, e10, e11, e12, e13, e14⟩ := HX.out.cells
  go_wp2_with (first | (go_at_call 17; refine (pis9_any r.t _ H1.out _).mono ?_; rintro e w1 ⟨rfl, hb⟩; clear e0 e1 e2 e3 e4 e5 e6 e7 e8 e9 e10 e11 e12 e13 e14; have HX1 := Lib.hid (HX.out.next hb); have HBL1 := Lib.hid (HBL.out.trans (hb.mono HBL.out.size)); clear hb; obtain ⟨c0, c1, c2, c3, c4, c5, c6, c7, c8, c9, c10, c11, c12, c13, c14⟩ := HX1.out.cells) | (go_at_call 20; refine (pkey_any r.key _ H2.out _).mono ?_; rintro e w2 ⟨rfl, rfl⟩) | (go_at_call 21; refine (pversion_any r.ver _ H3.out _).mono ?_; rintro e w2 ⟨rfl, rfl⟩))
  refine (ptellsu_any r w1.heap.size _ HK.out _ (heap_alloc_new w1 _)).mono ?_
  rintro e w2 ⟨rfl, rfl⟩
  go_wp2_with fail
  have HF0 := Lib.hid (fbox_new w1 (rgL q) (List.map (fun x => Value.int .i64 x) (rgL r)).toArray (by rw [HC.out] <;> rfl))
  have HB3 := Lib.hid (below_lit w1 (List.map (fun x => Value.int .i64 x) (rgL r)).toArray 56)
  have hs3 := HB3.out.size
  refine (ptags_any q w1.heap.size n HN.out _ HF0.out).mono ?_
  rintro e w4 ⟨A4, k4, rfl, hz, hb⟩
  have HZ := Lib.hid hz
  have HFB := Lib.hid (HF0.out.next hb)
  have HBL4 := Lib.hid (HBL1.out.trans ((HB3.out.trans (hb.mono hs3)).mono HBL1.out.size))
  clear hb hz HF0 HB3 hs3 c0 c1 c2 c3 c4 c5 c6 c7 c8 c9 c10 c11 c12 c13 c14
  obtain ⟨d0, d1, d2, d3, d4, d5, d6, d7, d8, d9, d10, d11, d12, d13, d14⟩ := HFB.out.cells
  go_wp2_with fail
  refine (ptells_any q.ver _ n HN.out HTS.out _ HF.out A4 k4 w4 HZ.out).mono ?_
  rintro e w5 ⟨rfl, rfl⟩
  go_wp2_with fail
  refine (pfldof_any q w1.heap.size _ n HN.out hn13 HTX.out A4 k4 w4 HFB.out HZ.out).mono ?_
  rintro e w6 ⟨A6, k6, rfl, ht, hb⟩
  rw [fldT_all] at ht
  have HT := Lib.hid ht
  have HBE := Lib.hid (HBL4.out.trans (hb.mono HBL4.out.size))
  clear ht hb d0 d1 d2 d3 d4 d5 d6 d7 d8 d9 d10 d11 d12 d13 d14
  go_wp2
  go_ret2
  exact ⟨A6, k6, by rw [HLN.out]; rfl, HT.out, HBE.out⟩
set_option maxRecDepth 100000 in
set_option maxHeartbeats 1600000 in
theorem fput_6n (r : Rg) (E : Nat) (p : List Tf) (hE : fdPut r = (E, p)) (w : World) (ha : argF r = true) (hk : r.t.kind ≠ 4) (hf : fitX r.ver (tagsF 1 (numL (cutU r))) = true) : Calls Tryd.prog 11 #[.agg #[.int .i64 r.t.ser, .int .i64 r.t.kind, .int .i64 r.t.frm, .int .i64 r.t.till, .int .i64 r.t.cls, .int .i64 r.t.card, .int .i64 r.t.seat, .int .i64 r.t.day, .int .i64 r.t.days, .int .i64 r.t.uses, .int .i64 r.t.epoch, .int .i64 r.key, .int .i64 r.left, .int .i64 r.inn, .int .i64 r.ver]] w fun e w' => ∃ A c, e = .returned (.tuple #[.slice A (p.length : Nat) c, .int .i64 (E : Int)]) ∧ Ts w' w'.heap.size p A c ∧ Below w.heap.size w w' := by
  obtain ⟨rfl, rfl⟩ : E = 0 ∧ p = fldF 1 (numL (cutU r)) := by have := hE; rw [fdPut_ok ha hf] at this; exact ⟨(Prod.mk.inj this).1.symm, (Prod.mk.inj this).2.symm⟩
  clear hE
  have hmf : ∀ (fn : Fn) (first cap : Array Value) (w : World), (Instr.makeFunc fn first cap).run Tryd.prog w = .ok (.func fn first cap) w := fun _ _ _ _ => rfl
  obtain ⟨h1, h2, h3, h4, h5, h6, h7⟩ := (argF_iff r).1 ha
  have H1 := Lib.hid h1
  have H2 := Lib.hid (show (decide (0 ≤ r.key) && decide (r.key ≤ 99)) = true by rw [decide_eq_true h2, decide_eq_true h3]; rfl)
  have H3 := Lib.hid (show (decide (1 ≤ r.ver) && decide (r.ver ≤ 3)) = true by rw [decide_eq_true h6, decide_eq_true h7]; rfl)
  have q3 : (r.left == 0) = true := by rw [beq_iff_eq]; exact h4
  have q4 : (r.inn == 0) = true := by rw [beq_iff_eq]; exact h5
  have HK := Lib.hid (show (r.t.kind == 4) = false by rw [beq_eq_false_iff_ne]; exact hk)
  have HC := Lib.hid (show cutU r = { r with t := { r.t with uses := 0 } } by rw [cutU, if_neg hk])
  have HIN := Lib.hid (num_in ha)
  obtain ⟨q, hq⟩ : ∃ q, q = cutU r := ⟨_, rfl⟩
  rw [← hq] at hf HC HIN
  try rw [← hq]
  have hqv : q.ver = r.ver := by rw [hq, cut_ver]
  rw [← hqv] at hf
  obtain ⟨n, hn⟩ : ∃ n, n = (tagsF 1 (numL q)).length := ⟨_, rfl⟩
  have HN := Lib.hid hn
  have HF := Lib.hid hf
  have hn13 : n ≤ 13 := by rw [hn]; exact Nat.le_trans (tagsF_len _ _) (by rw [numL_len]; omega)
  have HTS := Lib.hid (show ∀ t ∈ tagsF 1 (numL q), 1 ≤ t ∧ t ≤ 13 from fun t ht => by have := tagsF_mem _ _ _ ht; rw [numL_len] at this; omega)
  have HTX := Lib.hid (show ∀ t ∈ tagsF 1 (numL q), 1 ≤ t ∧ t ≤ 13 ∧ 0 ≤ (numL q).getD (t - 1) 0 ∧ (numL q).getD (t - 1) 0 < 9223372036854775808 from fun t ht => by have h1 := HTS.out t ht; have h2 := num_at HIN.out (t - 1); omega)
  have HLN := Lib.hid (show (fldF 1 (numL q)).length = n by rw [fldF_len]; exact hn.symm)
  clear h1 h2 h3 h4 h5 h6 h7 ha hk hf hq hqv hn
  obtain ⟨w0, hw0⟩ : ∃ w0, w0 = w.alloc (.cells #[.int .i64 r.t.ser, .int .i64 r.t.kind, .int .i64 r.t.frm, .int .i64 r.t.till, .int .i64 r.t.cls, .int .i64 r.t.card, .int .i64 r.t.seat, .int .i64 r.t.day, .int .i64 r.t.days, .int .i64 r.t.uses, .int .i64 r.t.epoch, .int .i64 r.key, .int .i64 r.left, .int .i64 r.inn, .int .i64 r.ver] 35) := ⟨_, rfl⟩
  have HX : Hid (RBox w0 w.heap.size r) := Lib.hid (by rw [hw0]; exact RBox.new w r)
  have HBL : Hid (Below w.heap.size w w0) := Lib.hid (by rw [hw0]; exact below_lit w _ _)
  have HW := Lib.hid hw0
  clear hw0
  go_enter Tryd.func11, Tryd.ntmps11
  go_wp2_with fail
  rw [← HW.out]
  obtain ⟨e0, e1, e2, e3, e4, e5, e6, e7, e8, e9, e10, e11, e12, e13, e14⟩ := HX.out.cells
  go_wp2_with (first | (go_at_call 17; refine (pis9_any r.t _ H1.out _).mono ?_; rintro e w1 ⟨rfl, hb⟩; clear e0 e1 e2 e3 e4 e5 e6 e7 e8 e9 e10 e11 e12 e13 e14; have HX1 := Lib.hid (HX.out.next hb); have HBL1 := Lib.hid (HBL.out.trans (hb.mono HBL.out.size)); clear hb; obtain ⟨c0, c1, c2, c3, c4, c5, c6, c7, c8, c9, c10, c11, c12, c13, c14⟩ := HX1.out.cells) | (go_at_call 20; refine (pkey_any r.key _ H2.out _).mono ?_; rintro e w2 ⟨rfl, rfl⟩) | (go_at_call 21; refine (pversion_any r.ver _ H3.out _).mono ?_; rintro e w2 ⟨rfl, rfl⟩))
  refine (ptellsu_any r w1.heap.size _ HK.out _ (heap_alloc_new w1 _)).mono ?_
  rintro e w2 ⟨rfl, rfl⟩
  go_wp2_with fail
  have HF0 := Lib.hid (fbox_new w1 (rgL q) ((List.map (fun x => Value.int .i64 x) (rgL r)).set 9 (.int .i64 0)).toArray (by rw [HC.out] <;> rfl))
  have HB3 := Lib.hid (below_lit w1 ((List.map (fun x => Value.int .i64 x) (rgL r)).set 9 (.int .i64 0)).toArray 56)
  have hs3 := HB3.out.size
  refine (ptags_any q w1.heap.size n HN.out _ HF0.out).mono ?_
  rintro e w4 ⟨A4, k4, rfl, hz, hb⟩
  have HZ := Lib.hid hz
  have HFB := Lib.hid (HF0.out.next hb)
  have HBL4 := Lib.hid (HBL1.out.trans ((HB3.out.trans (hb.mono hs3)).mono HBL1.out.size))
  clear hb hz HF0 HB3 hs3 c0 c1 c2 c3 c4 c5 c6 c7 c8 c9 c10 c11 c12 c13 c14
  obtain ⟨d0, d1, d2, d3, d4, d5, d6, d7, d8, d9, d10, d11, d12, d13, d14⟩ := HFB.out.cells
  go_wp2_with fail
  refine (ptells_any q.ver _ n HN.out HTS.out _ HF.out A4 k4 w4 HZ.out).mono ?_
  rintro e w5 ⟨rfl, rfl⟩
  go_wp2_with fail
  refine (pfldof_any q w1.heap.size _ n HN.out hn13 HTX.out A4 k4 w4 HFB.out HZ.out).mono ?_
  rintro e w6 ⟨A6, k6, rfl, ht, hb⟩
  rw [fldT_all] at ht
  have HT := Lib.hid ht
  have HBE := Lib.hid (HBL4.out.trans (hb.mono HBL4.out.size))
  clear ht hb d0 d1 d2 d3 d4 d5 d6 d7 d8 d9 d10 d11 d12 d13 d14
  go_wp2
  go_ret2
  exact ⟨A6, k6, by rw [HLN.out]; rfl, HT.out, HBE.out⟩
set_option maxRecDepth 100000 in
set_option maxHeartbeats 1600000 in
theorem fput_any (r : Rg) (E : Nat) (p : List Tf) (hE : fdPut r = (E, p)) (w : World)  : Calls Tryd.prog 11 #[.agg #[.int .i64 r.t.ser, .int .i64 r.t.kind, .int .i64 r.t.frm, .int .i64 r.t.till, .int .i64 r.t.cls, .int .i64 r.t.card, .int .i64 r.t.seat, .int .i64 r.t.day, .int .i64 r.t.days, .int .i64 r.t.uses, .int .i64 r.t.epoch, .int .i64 r.key, .int .i64 r.left, .int .i64 r.inn, .int .i64 r.ver]] w fun e w' => ∃ A c, e = .returned (.tuple #[.slice A (p.length : Nat) c, .int .i64 (E : Int)]) ∧ Ts w' w'.heap.size p A c ∧ Below w.heap.size w w' := by
  cases h1 : okT r.t with
  | false => exact fput_p1 r E p hE w h1
  | true =>
    cases h2 : (decide (0 ≤ r.key) && decide (r.key ≤ 99)) with
    | false => exact fput_p2 r E p hE w h1 h2
    | true =>
      by_cases h3 : r.left = 0
      rotate_left
      · exact fput_p3a r E p hE w h1 h2 h3
      by_cases h4 : r.inn = 0
      rotate_left
      · exact fput_p3b r E p hE w h1 h2 h3 h4
      cases h5 : (decide (1 ≤ r.ver) && decide (r.ver ≤ 3)) with
      | false => exact fput_p4 r E p hE w h1 h2 h3 h4 h5
      | true =>
        have ha : argF r = true := (argF_iff r).2 (by simp at h2 h5; exact ⟨h1, h2.1, h2.2, h3, h4, h5.1, h5.2⟩)
        cases hf : fitX r.ver (tagsF 1 (numL (cutU r))) with
        | false =>
          by_cases hk : r.t.kind = 4
          · exact fput_5c r E p hE w ha hk hf
          · exact fput_5n r E p hE w ha hk hf
        | true =>
          by_cases hk : r.t.kind = 4
          · exact fput_6c r E p hE w ha hk hf
          · exact fput_6n r E p hE w ha hk hf
end Go.Proofs.YtaokhkbfiplfmaaDoor
end
section
namespace Go.Proofs.YtaokhkbfiplfmaaDoor
set_option linter.unusedVariables false
open Go.ChangeShapes Go.WideShapes Go.ChangeAt Go.RowKit

set_option maxRecDepth 100000 in
set_option maxHeartbeats 1600000 in
theorem pis_tlv (l : List Tf) (n : Nat) (hn : n = l.length) (b : Bool) (hb : isT 0 l = b) (A : Option Addr) (c : Nat) (w : World) (hA : Ts w w.heap.size l A c) :
    Calls Tryd.prog 30 #[.slice A n c] w fun e w' => e = .returned (.bool b) ∧ Below w.heap.size w w' := by
  have h1 : n ≤ 9223372036854775807 := by have h1 := hA.len; have h2 := hA.cap; omega
  have HN := Lib.hid hn
  have HB := Lib.hid hb
  have HA := Lib.hid hA
  clear hn hb hA
  go_enter Tryd.func30, Tryd.ntmps30
  go_wp2
  go_loopw [3, 8] (fun a i wr => ∃ k : Nat, k ≤ n ∧ i = .int .i64 k ∧ a = .int .i64 (lastT 0 (l.take k)) ∧ isT 0 (l.take k) = true ∧ Below w.heap.size w wr) (fun _ i _ => n - (intOf i).toNat)
  case atStart => exact ⟨0, Nat.zero_le _, rfl, rfl, rfl, Below.refl _ _⟩
  case round =>
    obtain ⟨k, hk, rfl, rfl, hall, hbel⟩ := hrel
    have HH := Lib.hid hall
    have HBL := Lib.hid hbel
    clear hall hbel
    by_cases hlt : k < n
    · obtain ⟨ad, S, cc, rfl, had, hk4⟩ := (HA.out.below HBL.out).rd k (by rw [← HN.out]; exact hlt)
      have hc0 := hk4.c0
      have hc1 := hk4.c1
      have hcap := hk4.bs.len
      have hcap2 := hk4.bs.cap
      have HKL := Lib.hid (show k < l.length by rw [← HN.out]; exact hlt)
      have b1 : (0 : Int) ≤ (k : Int) := by omega
      have b2 : (k : Int) < (n : Int) := by omega
      have HBAD := Lib.hid (fun h => HB.out.symm.trans (isT_bad l k HKL.out h))
      have HOK := Lib.hid (fun h => isT_step l k HKL.out HH.out h)
      obtain ⟨x, hx⟩ : ∃ x, x = l.getD k TF0 := ⟨_, rfl⟩
      obtain ⟨a, ha⟩ : ∃ a, a = lastT 0 (l.take k) := ⟨_, rfl⟩
      rw [← hx] at hc0 hc1 hcap HBAD HOK
      rw [← ha] at HBAD HOK ⊢
      have HB2 := Lib.hid (show Below w.heap.size w (wr.alloc (.cells #[.int .i64 x.tag, .slice S x.val.length cc] 66)) from HBL.out.trans ((below_lit wr _ _).mono HBL.out.size))
      clear hx ha hk4
      by_cases q1 : x.tag ≤ a
      · have e := HBAD.out (by rw [← Bool.not_eq_true, okTf_iff]; omega)
        have HE := Lib.hid e
        clear e
        go_wp2
        go_ret
        exact ⟨by rw [HE.out]; rfl, HB2.out⟩
      by_cases q2 : 255 < x.tag
      · have e := HBAD.out (by rw [← Bool.not_eq_true, okTf_iff]; omega)
        have HE := Lib.hid e
        clear e
        go_wp2
        go_ret
        exact ⟨by rw [HE.out]; rfl, HB2.out⟩
      by_cases q3 : 255 < x.val.length
      · have e := HBAD.out (by rw [← Bool.not_eq_true, okTf_iff]; omega)
        have q4 : (255 : Int) < (x.val.length : Int) := by omega
        have HE := Lib.hid e
        clear e
        go_wp2
        go_ret
        exact ⟨by rw [HE.out]; rfl, HB2.out⟩
      have q4 : ¬ (255 : Int) < (x.val.length : Int) := by omega
      have HO := Lib.hid (HOK.out ((okTf_iff _ _ _).2 ⟨by omega, by omega, by omega⟩))
      go_wp2
      go_roundw
      case rel => exact ⟨k + 1, by omega, by go_num, by rw [HO.out.2], HO.out.1, HB2.out⟩
      case measure => simp [intOf]; omega
    · have e : k = n := by omega
      have e2 : l.take k = l := List.take_of_length_le (by rw [← HN.out]; omega)
      have HE := Lib.hid (show b = true by rw [← HB.out, ← e2]; exact HH.out)
      clear e2
      go_wp2
      go_ret
      exact ⟨by rw [HE.out]; rfl, HBL.out⟩
end Go.Proofs.YtaokhkbfiplfmaaDoor
end
