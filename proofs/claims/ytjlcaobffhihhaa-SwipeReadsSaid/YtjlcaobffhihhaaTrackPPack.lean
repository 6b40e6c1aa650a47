/-
  Contracts for the landed mask, Pack and Unpack. Conditions: the slices read as bits and bytes; at most 8388608 and 1048576 of them.
-/
import Derived.Test.YtjlcaobffhihhaaTrackBackMath
import Derived.Test.YtjlcaobffhihhaaBsRow
import Derived.Test.YtjlcaobffhihhaaBools
import Derived.Deep.RegionWith
namespace Go.Proofs.Ytjlcaobffhihhaa
set_option linter.unusedVariables false
open Go.ChangeShapes Go.WideShapes Go.ChangeAt Go.RowKit

set_option maxRecDepth 100000 in
set_option maxHeartbeats 1600000 in
theorem or_u8 : ∀ r : Nat, r < 8 → ∀ p : Nat, p < 2 ^ r → bits BinOp.or IntKind.u8 ((p * 2 ^ (8 - r) : Nat) : Int) ((2 ^ (7 - r) : Nat) : Int) = ((p * 2 ^ (8 - r) + 1 * 2 ^ (7 - r) : Nat) : Int) := by decide +kernel
set_option maxRecDepth 100000 in
set_option maxHeartbeats 1600000 in
theorem and_u8 : ∀ x : Nat, x < 256 → ∀ r : Nat, r < 8 → (bits BinOp.and IntKind.u8 (x : Int) ((2 ^ (7 - r) : Nat) : Int) != 0) = (x / 2 ^ (7 - r) % 2 == 1) := by decide +kernel
theorem mask_u8 : ∀ r : Nat, r < 8 → (2 : Int) ^ (7 - r) % 256 = ((2 ^ (7 - r) : Nat) : Int) := by decide
set_option maxRecDepth 100000 in
set_option maxHeartbeats 1600000 in
theorem pmask_any (i : Nat) (hi : i < 100000000) (w : World) : Calls Try.prog 29 #[.int .i64 (i : Int)] w fun e w' => e = .returned (.int .u8 ((2 ^ (7 - i % 8) : Nat) : Int)) ∧ w' = w := by
  obtain ⟨r, hr⟩ : ∃ r, i % 8 = r := ⟨_, rfl⟩
  have hr8 : r < 8 := by omega
  have hm : ((i : Int) % 8) = (r : Int) := by omega
  have hm2 : ((i : Int).tmod 8) = (r : Int) := by rw [Int.tmod_eq_emod_of_nonneg (by omega)]; omega
  have b0 : 0 ≤ 7 - (r : Int) := by omega
  have b1 : 7 - (r : Int) ≤ 64 := by omega
  have hk := mask_u8 r hr8
  rw [hr]
  go_enter Try.func29, Try.ntmps29
  go_wp2
  go_ret
  exact ⟨congrArg (fun z => Ending.returned (Value.int IntKind.u8 z)) hk, rfl⟩
set_option linter.unusedVariables false
open Go.ChangeShapes Go.WideShapes Go.ChangeAt Go.RowKit

set_option maxRecDepth 100000 in
set_option maxHeartbeats 1600000 in
theorem ppack_any (l : List Bool) (n : Nat) (hn : n = l.length) (hn2 : n ≤ 8388608) (A : Option Addr) (c : Nat) (w : World) (hA : Vs w w.heap.size l A c) : Calls Try.prog 16 #[.slice A n c] w fun e w' => ∃ A' c', e = .returned (.slice A' ((n + 7) / 8) c') ∧ Bs w' w'.heap.size (packL l) A' c' ∧ Below w.heap.size w w' := by
  obtain ⟨i0, hi, hz0, hz1, hz2⟩ := info_parts infoU8
  obtain ⟨m, hm⟩ : ∃ m, (n + 7) / 8 = m := ⟨_, rfl⟩
  have HM := Lib.hid hm
  have HN := Lib.hid hn
  have HA := Lib.hid hA
  have hm2 : m ≤ 8388608 := by omega
  have e1 : ((n : Int) + 8 - 1) / 8 = (m : Int) := by omega
  have e2 : ((n : Int) + 8 - 1).tdiv 8 = (m : Int) := by rw [Int.tdiv_eq_ediv_of_nonneg (by omega)]; exact e1
  rw [hm]
  clear hn hA hm
  go_enter Try.func16, Try.ntmps16
  go_wp2_with (at_make; refine wpList_make_full _ rfl _ _ 22 rfl w.heap.size 5 i0 (.int .u8 0) 1 Try.underlying22 hi hz0 hz1 _ _ _ _ m rfl rfl (by omega) (by omega) ?b2 ?b3 (Nat.le_refl _) ?_)
  case b2 => rw [hz2]; omega
  case b3 => unfold maxLen; omega
  intro w1 hown hg
  have HOW := Lib.hid (show w1.ownsRow w.heap.size 5 1 (.slice (some ⟨w.heap.size, 0, none⟩) m m) m (U8 (packN (l.take 0) m)) by
    rw [toList_madeCells_one] at hown
    rw [pk_zero, U8, List.map_replicate]
    exact hown)
  have HBL := Lib.hid (show Below w.heap.size w w1 from (Below.refl _ _).grown hg (Nat.le_refl _) (by simp))
  clear hown hg
  go_wp2
  go_loopw [14] (fun i wr => ∃ k : Nat, k ≤ n ∧ i = .int .i64 k ∧ wr.ownsRow w.heap.size 5 1 (.slice (some ⟨w.heap.size, 0, none⟩) m m) m (U8 (packN (l.take k) m)) ∧ Below w.heap.size w wr) (fun i _ => n - (intOf i).toNat)
  case atStart => exact ⟨0, Nat.zero_le _, rfl, HOW.out, HBL.out⟩
  case round =>
    obtain ⟨k, hk, rfl, hown, hbel⟩ := hrel
    replace HOW := Lib.hid hown
    replace HBL := Lib.hid hbel
    clear hown hbel
    by_cases hlt : k < n
    · have hkl : k < l.length := by rw [← HN.out]; exact hlt
      obtain ⟨x, hx⟩ : ∃ x, l[k]? = some x := ⟨_, List.getElem?_eq_getElem hkl⟩
      obtain ⟨ad, rfl, hadl, hc0⟩ := HA.out.at hx
      have hc : wr.cell? (ad.add k) = some (.bool x) := (HBL.out.cell (by rw [add_block]; exact hadl)).trans hc0
      obtain ⟨j, hj⟩ : ∃ j, k / 8 = j := ⟨_, rfl⟩
      have hjm : j < m := by have := HM.out; omega
      have e3 : (k : Int) / 8 = (j : Int) := by omega
      have e4 : (k : Int).tdiv 8 = (j : Int) := by rw [Int.tdiv_eq_ediv_of_nonneg (by omega)]; exact e3
      have hst := pk_step l k m (by rw [hj]; exact hjm)
      have hol := pk_old l k m (by rw [hj]; exact hjm)
      have hg : l.getD k false = x := by rw [List.getD_eq_getElem?_getD, hx]; rfl
      rw [hj] at hst hol
      rw [hg] at hst
      have HPB := Lib.hid (pk_bit l k)
      obtain ⟨y, hy⟩ : ∃ y, pkOld l k = y := ⟨_, rfl⟩
      rw [hy] at hst hol HPB
      have hf := HOW.out.frozenAt j
      have hc2 : wr.cell? ⟨w.heap.size, j, none⟩ = some (.int .u8 (y : Int)) := by
        rw [HOW.out.cellAt j (by omega), U8, List.getElem?_map, hol]; rfl
      have HST := Lib.hid hst
      have b0 : (0 : Int) ≤ (j : Int) := by omega
      have wj : IntKind.i64.wrap (j : Int) = (j : Int) := IntWalk.i64_in _ (by omega)
      have b1 : (j : Int) < (m : Int) := by omega
      have b2 : (k : Int) < (n : Int) := by omega
      clear hst hol hg hy hx hc0 hadl hkl hlt hj
      cases x with
      | false =>
        have hs0 : packN (l.take (k + 1)) m = packN (l.take k) m := by
          rw [HST.out]
          simp only [bit, Bool.false_eq_true, if_false, Nat.zero_mul, Nat.add_zero]
          exact List.ext_getElem? fun q => by
            by_cases hq : q = j
            · subst hq
              rw [List.getElem?_set_self (by rw [packN_len]; exact hjm)]
              have := HOW.out.cellAt q (by omega)
              rw [hc2, U8, List.getElem?_map] at this
              cases hz : (packN (l.take k) m)[q]? with
              | none => rw [hz] at this; cases this
              | some z =>
                rw [hz] at this
                simp at this
                congr 1
                omega
            · rw [List.getElem?_set_ne (by omega)]
        have HS0 := Lib.hid hs0
        clear hs0 hc2
        go_wp2
        go_roundw
        case rel => exact ⟨k + 1, by omega, by go_num, by rw [HS0.out]; exact HOW.out, HBL.out⟩
        case measure => simp [intOf]; omega
      | true =>
        obtain ⟨r, p, hr8, hp, hkr, hyp⟩ := HPB.out
        have hor : bits BinOp.or IntKind.u8 (y : Int) ((2 ^ (7 - k % 8) : Nat) : Int) = ((y + 1 * 2 ^ (7 - k % 8) : Nat) : Int) := by rw [hyp, hkr]; exact or_u8 r hr8 p hp
        obtain ⟨z, hz⟩ : ∃ z, 2 ^ (7 - k % 8) = z := ⟨_, rfl⟩
        have hmask := pmask_any k (by omega)
        rw [hz] at hor hmask
        have HMK := Lib.hid hmask
        have HSR := Lib.hid (HOW.out.stored j (.int .u8 ((y : Int) + (z : Int)))).1
        have HSE := Lib.hid (show (U8 (packN (l.take k) m)).set j (.int .u8 ((y : Int) + (z : Int))) = U8 (packN (l.take (k + 1)) m) by rw [HST.out, hz, U8, U8, List.map_set]; simp [bit])
        clear hp hkr hyp hz hmask HPB HST
        go_wp2
        go_region_with (go_at_call 29; refine (HMK.out _).mono ?_; rintro e w8 ⟨rfl, rfl⟩)
        all_goals
          go_wp2
          go_roundw
          case rel => exact ⟨k + 1, by omega, by go_num, by rw [← HSE.out]; exact HSR.out.drew, (HBL.out.setCell (p := ⟨w.heap.size, j, none⟩) (Nat.le_refl _) _).drew⟩
          case measure => simp [intOf]; omega
    · have e : k = n := by omega
      have hb : ¬ ((k : Int) < (n : Int)) := by omega
      have ht : packN (l.take k) m = packL l := by rw [e, HN.out, List.take_length, packL, ← HM.out, HN.out]
      rw [ht] at HOW
      clear ht hlt e
      go_wp2
      go_ret
      refine ⟨_, _, rfl, ?_, HBL.out⟩
      have h := bs_of_own HOW.out (packL_lt l)
      obtain ⟨A', c', hv, hbs⟩ := h
      cases hv
      exact hbs
set_option linter.unusedVariables false
open Go.ChangeShapes Go.WideShapes Go.ChangeAt Go.RowKit

set_option maxRecDepth 100000 in
set_option maxHeartbeats 1600000 in
theorem punpack_own (b : List Nat) (n : Nat) (hn : n = b.length) (hn2 : n ≤ 1048576) (A : Option Addr) (c : Nat) (w : World) (hA : Bs w w.heap.size b A c) : Calls Try.prog 15 #[.slice A n c] w fun e w' => e = .returned (.slice (some ⟨w.heap.size, 0, none⟩) (8 * n) (8 * n)) ∧ w'.ownsRow w.heap.size 4 1 (.slice (some ⟨w.heap.size, 0, none⟩) (8 * n) (8 * n)) (8 * n) (BL (unpackL b)) ∧ Below w.heap.size w w' := by
  obtain ⟨i0, hi, hz0, hz1, hz2⟩ := info_parts infoBoolT
  obtain ⟨m, hm⟩ : ∃ m, 8 * n = m := ⟨_, rfl⟩
  have HM := Lib.hid hm
  have HN := Lib.hid hn
  have HA := Lib.hid hA
  have hm2 : m ≤ 8388608 := by omega
  have e1 : (n : Int) * 8 = (m : Int) := by omega
  have wm : IntKind.i64.wrap (m : Int) = (m : Int) := IntWalk.i64_in _ (by omega)
  rw [hm]
  clear hn hA hm
  go_enter Try.func15, Try.ntmps15
  go_wp2_with (at_make; refine wpList_make_full _ rfl _ _ 32 rfl w.heap.size 4 i0 (.bool false) 1 Try.underlying32 hi hz0 hz1 _ _ _ _ m rfl rfl (by omega) (by omega) ?b2 ?b3 (Nat.le_refl _) ?_)
  case b2 => rw [hz2]; omega
  case b3 => unfold maxLen; omega
  intro w1 hown hg
  have HOW := Lib.hid (show w1.ownsRow w.heap.size 4 1 (.slice (some ⟨w.heap.size, 0, none⟩) m m) m (BL (upPart b 0)) by
    rw [toList_madeCells_one] at hown
    rw [upPart_zero, BL, List.map_replicate, ← HN.out, HM.out]
    exact hown)
  have HBL := Lib.hid (show Below w.heap.size w w1 from (Below.refl _ _).grown hg (Nat.le_refl _) (by simp))
  clear hown hg
  go_wp2
  go_loopw [11] (fun i wr => ∃ k : Nat, k ≤ m ∧ i = .int .i64 k ∧ wr.ownsRow w.heap.size 4 1 (.slice (some ⟨w.heap.size, 0, none⟩) m m) m (BL (upPart b k)) ∧ Below w.heap.size w wr) (fun i _ => m - (intOf i).toNat)
  case atStart => exact ⟨0, Nat.zero_le _, rfl, HOW.out, HBL.out⟩
  case round =>
    obtain ⟨k, hk, rfl, hown, hbel⟩ := hrel
    replace HOW := Lib.hid hown
    replace HBL := Lib.hid hbel
    clear hown hbel
    by_cases hlt : k < m
    · obtain ⟨j, hj⟩ : ∃ j, k / 8 = j := ⟨_, rfl⟩
      have hjn : j < n := by have := HM.out; omega
      have hjl : j < b.length := by rw [← HN.out]; exact hjn
      obtain ⟨x, hx⟩ : ∃ x, b[j]? = some x := ⟨_, List.getElem?_eq_getElem hjl⟩
      have hx256 : x < 256 := HA.out.lt x (List.mem_of_getElem? hx)
      have hU : (U8 b)[j]? = some (.int .u8 (x : Int)) := by simp [U8, hx]
      obtain ⟨ad, rfl, hadl, hc0⟩ := HA.out.rd j _ hU
      have hc : wr.cell? (ad.add j) = some (.int .u8 (x : Int)) := (HBL.out.cell (by rw [add_block]; exact hadl)).trans hc0
      have e3 : (k : Int) / 8 = (j : Int) := by omega
      have e4 : (k : Int).tdiv 8 = (j : Int) := by rw [Int.tdiv_eq_ediv_of_nonneg (by omega)]; exact e3
      have wj : IntKind.i64.wrap (j : Int) = (j : Int) := IntWalk.i64_in _ (by omega)
      have hub := up_bit b k x (by rw [hj]; exact hx)
      have hst := upPart_set b k (by rw [← HN.out, HM.out]; exact hlt)
      obtain ⟨t, ht⟩ : ∃ t, (unpackL b).getD k false = t := ⟨_, rfl⟩
      rw [ht] at hub hst
      have hand := and_u8 x hx256 (k % 8) (by omega)
      rw [← hub] at hand
      have hmask := pmask_any k (by omega)
      obtain ⟨z, hz⟩ : ∃ z, 2 ^ (7 - k % 8) = z := ⟨_, rfl⟩
      rw [hz] at hand hmask
      have HMK := Lib.hid hmask
      have hf := HOW.out.frozenAt k
      have hc2 : ∃ v, wr.cell? ⟨w.heap.size, k, none⟩ = some v := by
        rw [HOW.out.cellAt k (by omega), BL, List.getElem?_map]
        rw [List.getElem?_eq_getElem (by rw [upPart_len _ _ (by rw [← HN.out, HM.out]; exact hk), ← HN.out, HM.out]; exact hlt)]
        exact ⟨_, rfl⟩
      obtain ⟨v2, hc2⟩ := hc2
      have HSR := Lib.hid (show (wr.setCell ⟨w.heap.size, k, none⟩ (.bool t)).ownsRow w.heap.size 4 1 (.slice (some ⟨w.heap.size, 0, none⟩) m m) m (BL (upPart b (k + 1))) by
        have h := (HOW.out.stored k (.bool t)).1
        have e : (BL (upPart b k)).set k (.bool t) = BL (upPart b (k + 1)) := by rw [← hst, BL, BL, List.map_set]
        rw [e] at h
        exact h)
      have b0 : (0 : Int) ≤ (j : Int) := by omega
      have b1 : (j : Int) < (n : Int) := by omega
      have b2 : (k : Int) < (m : Int) := by omega
      have b3 : (0 : Int) ≤ (k : Int) := by omega
      clear hmask hst hub ht hz hx hU hc0 hadl hjl hj
      go_wp2
      go_region_with (go_at_call 29; refine (HMK.out _).mono ?_; rintro e w8 ⟨rfl, rfl⟩)
      all_goals
        go_wp2
        go_roundw
        case rel => exact ⟨k + 1, by omega, by go_num, HSR.out.drew, (HBL.out.setCell (p := ⟨w.heap.size, k, none⟩) (Nat.le_refl _) _).drew⟩
        case measure => simp [intOf]; omega
    · have e : k = m := by omega
      have hb : ¬ ((k : Int) < (m : Int)) := by omega
      have ht : upPart b k = unpackL b := by rw [e, ← HM.out, HN.out]; exact upPart_all b
      rw [ht] at HOW
      clear ht hlt e
      go_wp2
      go_ret
      exact ⟨rfl, HOW.out, HBL.out⟩
theorem punpack_any (b : List Nat) (n : Nat) (hn : n = b.length) (hn2 : n ≤ 1048576) (A : Option Addr) (c : Nat) (w : World) (hA : Bs w w.heap.size b A c) : Calls Try.prog 15 #[.slice A n c] w fun e w' => ∃ A' c', e = .returned (.slice A' ((8 * n : Nat)) c') ∧ Vs w' w'.heap.size (unpackL b) A' c' ∧ Below w.heap.size w w' := by
  refine (punpack_own b n hn hn2 A c w hA).mono ?_
  rintro e w' ⟨rfl, ho, hb⟩
  obtain ⟨A', c', hv, _, hbs⟩ := vs_of_own ho
  cases hv
  exact ⟨_, _, rfl, hbs, hb⟩
end Go.Proofs.Ytjlcaobffhihhaa
