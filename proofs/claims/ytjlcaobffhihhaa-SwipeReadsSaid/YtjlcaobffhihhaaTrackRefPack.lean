/-
  Contract for the reference's Pack. Conditions: the slice reads as bits; at most 400000 of them.
-/
import Derived.Test.YtjlcaobffhihhaaTrackMath
import Derived.Test.YtjlcaobffhihhaaBools
import Derived.Test.YtjlcaobffhihhaaBsRow
namespace Go.Proofs.Ytjlcaobffhihhaa
set_option linter.unusedVariables false
open Go.ChangeShapes Go.WideShapes Go.ChangeAt Go.RowKit

set_option maxRecDepth 100000 in
set_option maxHeartbeats 1600000 in
theorem refpack_any (l : List Bool) (n : Nat) (hn : n = l.length) (hn2 : n ≤ 400000) (A : Option Addr) (c : Nat) (w : World) (hA : Vs w w.heap.size l A c) : Calls Try.prog 18 #[.slice A n c] w fun e w' => ∃ A' c', e = .returned (.slice A' ((n + 7) / 8) c') ∧ Bs w' w'.heap.size (packL l) A' c' ∧ Below w.heap.size w w' := by
  obtain ⟨i0, hi, hz0, hz1, hz2⟩ := info_parts infoU8
  obtain ⟨m, hm⟩ : ∃ m, (n + 7) / 8 = m := ⟨_, rfl⟩
  have HM := Lib.hid hm
  have HN := Lib.hid hn
  have HA := Lib.hid hA
  have hmn : 8 * m ≤ n + 7 := by omega
  have hnm : n ≤ 8 * m := by omega
  have hn3 : n ≤ 9223372036854775807 := by omega
  rw [hm]
  clear hn hA hm
  go_enter Try.func18, Try.ntmps18
  go_wp2
  go_loopw [3, 4] (fun v i wr => ∃ j : Nat, j ≤ m ∧ i = .int .i64 ((8 * j : Nat) : Int) ∧ wr.ownsRow w.heap.size 5 1 v j (U8 (packN l j)) ∧ Below w.heap.size w wr) (fun _ i _ => 8 * m - (intOf i).toNat)
  case atStart => exact ⟨0, by omega, rfl, World.ownsRow_lit w #[] 0 (Nat.le_refl _) (by decide) rfl, below_lit w _ _⟩
  case round =>
    obtain ⟨j, hj, rfl, hown, hbel⟩ := hrel
    have HOW := Lib.hid hown
    have HBL := Lib.hid hbel
    clear hown hbel
    obtain ⟨s, hs⟩ : ∃ s, 8 * j = s := ⟨_, rfl⟩
    have HSJ := Lib.hid hs
    rw [hs]
    by_cases hlt : s < n
    · have b0 : (0 : Int) ≤ (s : Int) := by omega
      have b1 : (s : Int) < (n : Int) := by omega
      have hjm : j < m := by omega
      have ws8 : IntKind.i64.wrap ((s : Int) + 8) = (s : Int) + 8 := IntWalk.i64_in _ (by omega)
      have HWS := Lib.hid ws8
      have HSB := Lib.hid (show s ≤ 400000 by omega)
      clear ws8 hs
      go_wp2
      go_loopw [5, 6] (fun x k wr => ∃ q : Nat, q ≤ 8 ∧ k = .int .i64 ((s + q : Nat) : Int) ∧ x = .int .i64 ((accB l s q : Nat) : Int) ∧ wr.ownsRow w.heap.size 5 1 u3 j (U8 (packN l j)) ∧ Below w.heap.size w wr) (fun _ k _ => s + 8 - (intOf k).toNat)
      case atStart => exact ⟨0, by omega, rfl, rfl, HOW.out, HBL.out⟩
      case round =>
        obtain ⟨q, hq, rfl, rfl, hown, hbel⟩ := hrel
        replace HOW := Lib.hid hown
        replace HBL := Lib.hid hbel
        clear hown hbel
        have ws8 := HWS.out
        by_cases hq8 : q < 8
        · obtain ⟨k, hk⟩ : ∃ k, s + q = k := ⟨_, rfl⟩
          have hlt2 := accB_lt l s q
          have hp8 : 2 ^ q ≤ 128 := by
            have := Nat.pow_le_pow_right (n := 2) (by omega) (show q ≤ 7 by omega)
            simpa using this
          obtain ⟨a, ha⟩ : ∃ a, accB l s q = a := ⟨_, rfl⟩
          have hacc : accB l s (q + 1) = 2 * a + bit (l.getD k false) := by rw [accB, ha, hk]
          rw [ha, hk]
          have hk1 : s + (q + 1) = k + 1 := by omega
          have ha2 : a < 128 := by omega
          have hkb := HSB.out
          have b2 : (k : Int) < (s : Int) + 8 := by omega
          have b3 : (0 : Int) ≤ (k : Int) := by omega
          have w2 : IntKind.i64.wrap (2 * (a : Int)) = 2 * (a : Int) := IntWalk.i64_in _ (by omega)
          have w21 : IntKind.i64.wrap (2 * (a : Int) + 1) = 2 * (a : Int) + 1 := IntWalk.i64_in _ (by omega)
          have wk : IntKind.i64.wrap ((k : Int) + 1) = (k : Int) + 1 := IntWalk.i64_in _ (by omega)
          clear hlt2 hp8 ha
          by_cases hkn : k < n
          · obtain ⟨z, hz⟩ : ∃ z, l[k]? = some z := ⟨_, List.getElem?_eq_getElem (by rw [← HN.out]; exact hkn)⟩
            obtain ⟨ad, rfl, hadl, hc0⟩ := HA.out.at hz
            have hc : wr.cell? (ad.add k) = some (.bool z) := (HBL.out.cell (by rw [add_block]; exact hadl)).trans hc0
            have hg : l.getD k false = z := by rw [List.getD_eq_getElem?_getD, hz]; rfl
            rw [hg] at hacc
            have b4 : (k : Int) < (n : Int) := by omega
            have HK1 := Lib.hid hk1
            have HKM := Lib.hid hk
            have HAC := Lib.hid hacc
            clear hadl hc0 hz hg hk1 hk hacc
            cases z
            all_goals
              have HA1 := Lib.hid HAC.out
              simp only [bit, Bool.false_eq_true, if_false, if_true] at HA1
              clear HAC
              go_wp2
              go_roundw
              case rel => exact ⟨q + 1, by omega, by rw [HK1.out]; go_num, by rw [HA1.out]; go_num, HOW.out, HBL.out⟩
              case measure => simp [intOf]; have := HKM.out; omega
          · have hg : l.getD k false = false := by rw [List.getD_eq_getElem?_getD, List.getElem?_eq_none (by rw [← HN.out]; omega)]; rfl
            rw [hg] at hacc
            have b4 : ¬ ((k : Int) < (n : Int)) := by omega
            have HK1 := Lib.hid hk1
            have HKM := Lib.hid hk
            have HA1 := Lib.hid hacc
            simp only [bit, Bool.false_eq_true, if_false] at HA1
            clear hg hk1 hk hacc
            go_wp2
            go_roundw
            case rel => exact ⟨q + 1, by omega, by rw [HK1.out]; go_num, by rw [HA1.out]; go_num, HOW.out, HBL.out⟩
            case measure => simp [intOf]; have := HKM.out; omega
        · have e : q = 8 := by omega
          subst e
          have hab := accB_lt l s 8
          have hpk := packN_succ l j
          have hs2 := HSJ.out
          rw [hs2] at hpk
          obtain ⟨a, ha⟩ : ∃ a, accB l s 8 = a := ⟨_, rfl⟩
          rw [ha] at hab hpk ⊢
          have ha2 : a < 256 := by simpa using hab
          have HPK := Lib.hid hpk
          have hm1 : j + 1 ≤ maxLen := by unfold maxLen; omega
          have hm2 : (j + 1) * 1 ≤ 140737488355328 := by omega
          have hb2 : ¬ (((s + 8 : Nat) : Int) < (s : Int) + 8) := by omega
          have hss : ((s + 8 : Nat) : Int) = (s : Int) + 8 := by omega
          rw [hss] at hb2 ⊢
          have hwa : IntKind.u8.wrap (a : Int) = (a : Int) := by simp [IntKind.wrap, IntKind.signed, IntKind.bits]; omega
          have hsz := HBL.out.size
          clear hab hpk ha hlt
          go_wp2_with (at_builtin; refine wpList_append_own _ rfl (.tmp 35) (.tmp 38) 22 rfl w.heap.size 5 i0 (.int .u8 0) 1 1 Try.underlying22 hi hz0 hz1 hz2 rfl (by decide) _ j (U8 (packN l j)) rfl (HOW.out.alloc _) ⟨_, 0, none⟩ 1 1 (U8 [a]) rfl rfl ?rd (U8_one _) hm1 hm2 (by simp; omega) ?_)
          case rd =>
            intro q u hu
            first | exact hu | (simpa [U8] using hu) | (simpa [U8, hwa] using hu)
          intro v8 w8 hown8 hg8 _
          have HO8 := Lib.hid (show w8.ownsRow w.heap.size 5 1 v8 (j + 1) (U8 (packN l (j + 1))) by
            rw [HPK.out, U8, List.map_append]
            exact hown8)
          have HB8 := Lib.hid ((HBL.out.alloc HBL.out.size _).grown hg8 (by simp; omega) (fun p hp => own_ge HOW.out hp))
          clear hown8 hg8 HOW HBL HPK
          go_wp2
          go_roundw
          case rel => exact ⟨j + 1, by omega, by rw [show 8 * (j + 1) = s + 8 by omega]; go_num, HO8.out, HB8.out⟩
          case measure => simp [intOf]; omega
    · have e : j = m := by omega
      have hb : ¬ ((s : Int) < (n : Int)) := by omega
      have ht : packN l j = packL l := by rw [e, packL, ← HN.out, HM.out]
      rw [ht, e] at HOW
      clear ht hlt hs
      obtain ⟨A', c', hv, hbs⟩ := bs_of_own HOW.out (packL_lt l)
      subst hv
      go_wp2
      go_ret
      exact ⟨_, _, rfl, hbs, HBL.out⟩
end Go.Proofs.Ytjlcaobffhihhaa
