/-
  Contract for the landed Put. Conditions: the slice reads as bytes.
-/
import Derived.Test.YtpniolinndlepaaGreatDoorTrackA
namespace Go.Proofs.YtpniolinndlepaaGreatDoor
set_option linter.unusedVariables false
open Go.ChangeShapes Go.WideShapes Go.ChangeAt Go.RowKit

set_option maxRecDepth 100000 in
set_option maxHeartbeats 1600000 in
theorem pput_any (d : List Nat) (n : Nat) (hn : n = d.length) (hn2 : n ≤ 9223372036854775807) (E : Int) (hE : putE d = E) (p : List Nat) (hP : putL d = p) (A : Option Addr) (c : Nat) (w : World) (hA : Bs w w.heap.size d A c) : Calls Tryz.prog 25 #[.slice A n c] w fun e w' => ∃ A' c', e = .returned (.tuple #[.slice A' (p.length : Nat) c', .int .i64 E]) ∧ Bs w' w'.heap.size p A' c' ∧ Below w.heap.size w w' := by
  obtain ⟨i0, hi, hz0, hz1, hz2⟩ := info_parts infoInt
  have HN := Lib.hid hn
  have HA := Lib.hid hA
  have HE := Lib.hid hE
  have HP := Lib.hid hP
  have hn3 : n ≤ 9223372036854775807 := by omega
  by_cases h77 : 77 < n
  · have e21 : E = 21 := by rw [← hE, putE, if_pos (by rw [← hn]; exact h77)]
    have hp : p = [] := by rw [← hP, putL, if_neg (by rw [hE, e21]; decide)]
    subst e21 hp
    have b0 : (77 : Int) < (n : Int) := by omega
    clear hn hA hE hP
    go_enter Tryz.func25, Tryz.ntmps25
    go_wp2
    go_ret2
    exact ⟨none, 0, rfl, ⟨by intro k u hu; simp [U8] at hu, fun _ => rfl, by simp, by omega, by simp⟩, Below.refl _ _⟩
  have b77 : ¬ ((77 : Int) < (n : Int)) := by omega
  clear hn hA hE hP
  go_enter Tryz.func25, Tryz.ntmps25
  go_wp2
  go_loopw [4, 13] (fun v i wr => ∃ k : Nat, k ≤ n ∧ i = .int .i64 k ∧ wr.ownsRow w.heap.size 3 1 v (k + 1) (I64 (NZ (11 :: d.take k))) ∧ digitsOk (d.take k) = true ∧ Below w.heap.size w wr) (fun _ i _ => n - (intOf i).toNat)
  case atStart => exact ⟨0, by omega, rfl, World.ownsRow_lit w #[.int .i64 11] 1 (Nat.le_refl _) (by decide) rfl, rfl, below_lit w _ _⟩
  case round =>
    obtain ⟨k, hk, rfl, hown, hdg, hbel⟩ := hrel
    have HOW := Lib.hid hown
    have HBL := Lib.hid hbel
    have HDG := Lib.hid hdg
    clear hown hbel hdg
    by_cases hlt : k < n
    · have hkl : k < d.length := by rw [← HN.out]; exact hlt
      obtain ⟨x, hx⟩ : ∃ x, d[k]? = some x := ⟨_, List.getElem?_eq_getElem hkl⟩
      have hx256 : x < 256 := HA.out.lt x (List.mem_of_getElem? hx)
      have hU : (U8 d)[k]? = some (.int .u8 (x : Int)) := by simp [U8, hx]
      obtain ⟨ad, rfl, hadl, hc0⟩ := HA.out.rd k _ hU
      have hc : wr.cell? (ad.add k) = some (.int .u8 (x : Int)) := (HBL.out.cell (by rw [add_block]; exact hadl)).trans hc0
      have HX := Lib.hid hx
      have b0 : (0 : Int) ≤ (k : Int) := by omega
      have b1 : (k : Int) < (n : Int) := by omega
      clear hx hkl hU hadl hc0
      by_cases hx9 : x ≤ 9
      · have b2 : ¬ ((9 : Int) < (x : Int)) := by omega
        have wx : IntKind.i64.wrap (x : Int) = (x : Int) := IntWalk.i64_in _ (by omega)
        have HST := Lib.hid (nz_step HX.out)
        have HD2 := Lib.hid (show digitsOk (d.take (k + 1)) = true by rw [digits_take HX.out, HDG.out, decide_eq_true hx9]; rfl)
        have hm1 : k + 1 + 1 ≤ maxLen := by unfold maxLen; omega
        have hm2 : (k + 1 + 1) * 8 ≤ 140737488355328 := by omega
        have hsz := HBL.out.size
        go_wp2_with (at_builtin; refine wpList_append_own _ rfl (.tmp 19) (.tmp 22) 82 rfl w.heap.size 3 i0 (.int .i64 0) 1 8 Tryz.underlying82 hi hz0 hz1 hz2 rfl (by decide) _ (k + 1) (I64 (NZ (11 :: d.take k))) rfl (HOW.out.alloc _) ⟨_, 0, none⟩ 1 1 (I64 [(x : Int)]) rfl rfl (int_lit _ _) (I64_one _) hm1 hm2 (by simp; omega) ?_)
        intro v8 w8 hown8 hg8 _
        have HO8 := Lib.hid (show w8.ownsRow w.heap.size 3 1 v8 (k + 1 + 1) (I64 (NZ (11 :: d.take (k + 1)))) by
          rw [HST.out, I64_append]
          exact hown8)
        have HB8 := Lib.hid ((HBL.out.alloc HBL.out.size _).grown hg8 (by simp; omega) (fun p hp => own_ge HOW.out hp))
        clear hown8 hg8 HOW HBL hc
        go_wp2
        go_roundw
        case rel => exact ⟨k + 1, by omega, by go_num, HO8.out, HD2.out, HB8.out⟩
        case measure => simp [intOf]; omega
      · have b2 : (9 : Int) < (x : Int) := by omega
        have hbad := digits_bad HX.out hx9
        have e7 : E = 7 := by rw [← HE.out, putE, if_neg (by rw [← HN.out]; exact h77), if_neg (by rw [hbad]; decide)]
        have hp : p = [] := by rw [← HP.out, putL, if_neg (by rw [HE.out, e7]; decide)]
        subst e7 hp
        clear hbad hlt
        go_wp2
        go_ret2
        exact ⟨none, 0, rfl, ⟨by intro k u hu; simp [U8] at hu, fun _ => rfl, by simp, by omega, by simp⟩, HBL.out⟩
    · have e : k = n := by omega
      have hb : ¬ ((k : Int) < (n : Int)) := by omega
      have ht : d.take k = d := by rw [e, HN.out, List.take_length]
      rw [ht] at HOW HDG
      have e0 : E = 0 := by rw [← HE.out, putE, if_neg (by rw [← HN.out]; exact h77), if_pos HDG.out]
      have hE0 : putE d = 0 := HE.out.trans e0
      have hp : p = packL (charsL (trackV d)) := by rw [← HP.out, putL, if_pos hE0]
      have hpl : (packL (charsL (trackV d))).length = (5 * (n + 3) + 7) / 8 := by rw [packL_len, charsL_len, trackV_len, ← HN.out]
      subst e0 e hp
      have HPL := Lib.hid hpl
      have HP1 := Lib.hid (nz_pv d)
      have HP2 := Lib.hid (nz_tv d)
      obtain ⟨x, hx⟩ : ∃ x, xorL (putVals d) = x := ⟨_, rfl⟩
      have HX := Lib.hid hx
      rw [hx] at HP2
      have hm1 : k + 1 + 1 ≤ maxLen := by unfold maxLen; omega
      have hm2 : (k + 1 + 1) * 8 ≤ 140737488355328 := by omega
      have hm3 : k + 2 + 1 ≤ maxLen := by unfold maxLen; omega
      have hm4 : (k + 2 + 1) * 8 ≤ 140737488355328 := by omega
      have hsz := HBL.out.size
      clear ht hlt hx hpl hE0 HP
      go_wp2_with (at_builtin; refine wpList_append_own _ rfl (.tmp 25) (.tmp 26) 82 rfl w.heap.size 3 i0 (.int .i64 0) 1 8 Tryz.underlying82 hi hz0 hz1 hz2 rfl (by decide) _ (k + 1) (I64 (NZ (11 :: d))) rfl (HOW.out.alloc _) ⟨_, 0, none⟩ 1 1 (I64 [15]) rfl rfl (int_lit _ _) (I64_one _) hm1 hm2 (by simp; omega) ?_)
      intro v8 w8 hown8 hg8 _
      have HO8 := Lib.hid (show w8.ownsRow w.heap.size 3 1 v8 (k + 2) (I64 (NZ (putVals d))) by
        rw [HP1.out, I64_append]
        exact hown8)
      have HB8 := Lib.hid ((HBL.out.alloc HBL.out.size _).grown hg8 (by simp; omega) (fun p hp => own_ge HOW.out hp))
      clear hown8 hg8 HOW HBL
      obtain ⟨A8, c8, hv8, hl8, hz8⟩ := zs_of_own HO8.out
      subst hv8
      have HZ8 := Lib.hid hz8
      have HL8 := Lib.hid (show k + 2 = (putVals d).length by rw [hl8, NZ_len])
      clear hz8 hl8
      have hsz8 := HB8.out.size
      have hsz8' := HZ8.out.len
      go_wp2_with (first | (go_at_call 66; refine (psumof_any (putVals d) (pv_lt HDG.out) (k + 2) HL8.out A8 c8 x HX.out _ HZ8.out).mono ?_; rintro e w10 ⟨rfl, rfl⟩) | (at_builtin; refine wpList_append_own _ rfl (.tmp 28) (.tmp 31) 82 rfl w.heap.size 3 i0 (.int .i64 0) 1 8 Tryz.underlying82 hi hz0 hz1 hz2 rfl (by decide) _ (k + 2) (I64 (NZ (putVals d))) rfl (HO8.out.alloc _) ⟨_, 0, none⟩ 1 1 (I64 [(x : Int)]) rfl rfl (int_lit _ _) (I64_one _) hm3 hm4 (by simp; omega) ?_))
      intro v9 w9 hown9 hg9 _
      have HO9 := Lib.hid (show w9.ownsRow w.heap.size 3 1 v9 (k + 3) (I64 (NZ (trackV d))) by
        rw [HP2.out, I64_append]
        exact hown9)
      have HB9 := Lib.hid ((HB8.out.alloc HB8.out.size _).grown hg9 (by simp; omega) (fun p hp => own_ge HO8.out hp))
      clear hown9 hg9 HO8 HB8 HZ8
      obtain ⟨A9, c9, hv9, hl9, hz9⟩ := zs_of_own HO9.out
      subst hv9
      have HZ9 := Lib.hid hz9
      have HL9 := Lib.hid (show k + 3 = (trackV d).length by rw [hl9, NZ_len])
      have HC9 := Lib.hid (show 5 * (k + 3) = (charsL (trackV d)).length by rw [charsL_len, ← HL9.out])
      clear hz9 hl9
      have hb5 : 5 * (k + 3) ≤ 5000 := by omega
      have hk3 : k + 3 ≤ 2000 := by omega
      go_wp2_with (first | (go_at_call 65; refine (pbitsof_any (trackV d) (tv_lt HDG.out) (k + 3) HL9.out hk3 A9 c9 _ HZ9.out).mono ?_; rintro e w11 ⟨A11, c11, rfl, hvs, hb11⟩; replace HB9 := Lib.hid (HB9.out.trans (hb11.mono HB9.out.size)); clear hb11) | (go_at_call 47; refine (ppack_any (charsL (trackV d)) (5 * (k + 3)) HC9.out (by omega) A11 c11 _ hvs).mono ?_; rintro e w12 ⟨A12, c12, rfl, hbs, hb12⟩))
      go_ret2
      exact ⟨_, _, by rw [HPL.out]; rfl, hbs, HB9.out.trans (hb12.mono HB9.out.size)⟩
end Go.Proofs.YtpniolinndlepaaGreatDoor
