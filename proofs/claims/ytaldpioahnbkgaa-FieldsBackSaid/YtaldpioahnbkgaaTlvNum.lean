/-
  Contracts for the landed size, Number and Value, and for the reference's Number and Value. Conditions: the number is an int; the slice reads as bytes.
-/
import Derived.Test.YtaldpioahnbkgaaBsEmpty
import Derived.Test.YtaldpioahnbkgaaGet
import Derived.Test.YtaldpioahnbkgaaPut
import Derived.Test.YtaldpioahnbkgaaTlvMath
import Derived.IntWalk
namespace Go.Proofs.Ytaldpioahnbkgaa
set_option linter.unusedVariables false
open Go.ChangeShapes Go.WideShapes Go.ChangeAt Go.RowKit

theorem psize_neg (n : Int) (h : n ≤ 0) (w : World) : Calls Try.prog 47 #[.int .i64 n] w fun e w' => e = .returned (.int .i64 (0 : Int)) ∧ w = w' := by
  have h0 : ¬ (0 : Int) < n := by omega
  go_enter Try.func47, Try.ntmps47
  go_wp2
  go_loop [0, 3] (fun m i => m = .int .i64 n ∧ i = .int .i64 0) (fun _ _ => 0)
  case atStart => exact ⟨rfl, rfl⟩
  case round =>
    obtain ⟨rfl, rfl⟩ := hrel
    go_wp2
    go_ret
    exact ⟨rfl, rfl⟩
theorem psize_any (N s : Nat) (hs : sizeN N = s) (h : N < 9223372036854775808) (w : World) : Calls Try.prog 47 #[.int .i64 N] w fun e w' => e = .returned (.int .i64 (s : Int)) ∧ w = w' := by
  have hs8 := (sizeN_spec h).1
  have HS := Lib.hid hs
  clear hs
  go_enter Try.func47, Try.ntmps47
  go_wp2
  go_loop [0, 3] (fun m i => ∃ k : Nat, k ≤ 8 ∧ m = .int .i64 (N / 256 ^ k : Nat) ∧ i = .int .i64 k ∧ ∀ j, j < k → 256 ^ j ≤ N) (fun m _ => (intOf m).toNat)
  case atStart => exact ⟨0, by omega, by simp, rfl, by omega⟩
  case round =>
    obtain ⟨k, hk, rfl, rfl, hall⟩ := hrel
    have HH := Lib.hid hall
    clear hall
    by_cases h0 : 0 < N / 256 ^ k
    · have hge : 256 ^ k ≤ N := by
        rcases Nat.lt_or_ge N (256 ^ k) with h1 | h1
        · rw [Nat.div_eq_of_lt h1] at h0; omega
        · exact h1
      have hk7 : k ≤ 7 := by
        rcases Nat.lt_or_ge k 8 with h1 | h1
        · omega
        · have : 256 ^ 8 ≤ 256 ^ k := Nat.pow_le_pow_right (by omega) h1
          omega
      have HST := Lib.hid (show ∀ j, j < k + 1 → 256 ^ j ≤ N from by
        intro j hj
        rcases Nat.lt_or_ge j k with h | h
        · exact HH.out j h
        · have e : j = k := by omega
          subst e; exact hge)
      have HNX := Lib.hid (show N / 256 ^ (k + 1) = N / 256 ^ k / 256 by rw [Nat.pow_succ, Nat.div_div_eq_div_mul])
      have hy : N / 256 ^ k < 9223372036854775808 := Nat.lt_of_le_of_lt (Nat.div_le_self _ _) h
      clear hge
      generalize N / 256 ^ k = y at *
      have b1 : (0 : Int) < (y : Int) := by omega
      go_wp2
      go_round
      case rel => exact ⟨k + 1, by omega, by rw [HNX.out]; go_num, by go_num, HST.out⟩
      case measure => simp [intOf]; omega
    · have e : s = k := by
        rw [← HS.out]
        refine sizeN_eq h ?_ HH.out
        rcases Nat.lt_or_ge N (256 ^ k) with h1 | h1
        · exact h1
        · exact absurd (Nat.div_pos h1 (Nat.pow_pos (by omega))) h0
      subst e
      have e0 : N / 256 ^ s = 0 := Nat.eq_zero_of_le_zero (Nat.le_of_not_lt h0)
      rw [e0]
      clear h0 e0
      go_wp2
      go_ret
      exact ⟨rfl, rfl⟩
theorem outN_neg {n : Int} (h : n < 0) : outN n = (1, []) := by rw [outN, if_pos h]
theorem outN_nat (n : Nat) : outN (n : Int) = (0, numB n) := by rw [outN, if_neg (by omega)]; rfl
set_option maxRecDepth 100000 in
set_option maxHeartbeats 800000 in
/-- The bytes of a number are the call's own. -/
theorem pnumber_own (N : Nat) (hN : N < 9223372036854775808) (p : List Nat) (hp : numB N = p) (w : World) :
    Calls Try.prog 37 #[.int .i64 N] w fun e w' => ∃ v, e = .returned (.tuple #[v, .int .i64 (0 : Int)]) ∧ w'.ownsRow w.heap.size 5 1 v p.length (U8 p) ∧ Below w.heap.size w w' := by
  obtain ⟨h8, hlt, _⟩ := sizeN_spec hN
  obtain ⟨s, hs⟩ : ∃ s, sizeN N = s := ⟨_, rfl⟩
  have hl : p.length = s := by rw [← hp, numB_len, hs]
  have hq : putB N s = p := by rw [← hp, numB, hs]
  rw [hs] at h8 hlt
  have HS := Lib.hid hs
  have HL := Lib.hid hl
  have HQ := Lib.hid hq
  have HLT := Lib.hid hlt
  clear hs hp hl hq hlt
  go_enter Try.func37, Try.ntmps37
  go_wp2_with fail
  refine (psize_any N s HS.out hN w).mono ?_
  rintro e w1 ⟨rfl, rfl⟩
  go_wp2_with fail
  refine (put_ok N s w hN h8 HLT.out).mono ?_
  rintro e w1 ⟨g, cap, rfl, hown, hb⟩
  rw [HQ.out] at hown
  have HO := Lib.hid hown
  have HB := Lib.hid hb
  clear hown hb
  go_wp2_with fail
  go_ret2
  exact ⟨_, rfl, by rw [HL.out]; exact HO.out, HB.out⟩
theorem pnumber_any (n : Int) (hn : n < 9223372036854775808) (E : Nat) (p : List Nat) (hp : outN n = (E, p)) (w : World) :
    Calls Try.prog 37 #[.int .i64 n] w fun e w' => ∃ A' c', e = .returned (.tuple #[.slice A' (p.length : Nat) c', .int .i64 (E : Int)]) ∧ Bs w' w'.heap.size p A' c' ∧ Below w.heap.size w w' := by
  by_cases h0 : n < 0
  · rw [outN_neg h0] at hp
    cases hp
    go_enter Try.func37, Try.ntmps37
    go_wp2_with fail
    refine (psize_neg n (by omega) w).mono ?_
    rintro e w1 ⟨rfl, rfl⟩
    go_wp2_with fail
    refine (put_arg n 0 w (.inr (.inr h0))).mono ?_
    rintro e w1 ⟨rfl, rfl⟩
    go_wp2_with fail
    go_ret2
    exact ⟨none, 0, rfl, Bs.empty _ _, Below.refl _ _⟩
  · obtain ⟨N, rfl⟩ : ∃ N : Nat, n = (N : Int) := ⟨n.toNat, by omega⟩
    rw [outN_nat] at hp
    cases hp
    refine (pnumber_own N (by omega) (numB N) rfl w).mono ?_
    rintro e w1 ⟨v, rfl, hown, hb⟩
    obtain ⟨A, c, rfl, hbs⟩ := bs_of_own hown (numB_lt N)
    exact ⟨_, _, rfl, hbs, hb⟩
theorem u8_byte (r : Nat) (h : r < 256) : IntKind.u8.wrap (r : Int) = (r : Int) := by simp [IntKind.wrap, IntKind.signed, IntKind.bits]; omega
set_option maxRecDepth 100000 in
set_option maxHeartbeats 800000 in
/-- The bytes of a number are the call's own. -/
theorem refnumber_own (N : Nat) (hN : N < 9223372036854775808) (p : List Nat) (hp : numB N = p) (w : World) :
    Calls Try.prog 28 #[.int .i64 N] w fun e w' => ∃ v, e = .returned (.tuple #[v, .int .i64 (0 : Int)]) ∧ w'.ownsRow w.heap.size 5 1 v p.length (U8 p) ∧ Below w.heap.size w w' := by
  obtain ⟨i0, hi, hz0, hz1, hz2⟩ := info_parts infoU8
  have HP := Lib.hid (show ∀ k, sizeN N = k → putB N k = numB N from fun k h => by rw [numB, h])
  have HL := Lib.hid (numB_len N)
  rw [hp] at HP HL
  clear hp
  have hge0 : (0 : Int) ≤ (N : Int) := by omega
  go_enter Try.func28, Try.ntmps28
  go_wp2
  go_loopw [0, 4] (fun m v wr => ∃ k : Nat, k ≤ 8 ∧ m = .int .i64 (N / 256 ^ k : Nat) ∧ wr.ownsRow w.heap.size 5 1 v k (U8 (putB N k)) ∧ Below w.heap.size w wr ∧ ∀ j, j < k → 256 ^ j ≤ N) (fun m _ _ => (intOf m).toNat)
  case atStart => exact ⟨0, by omega, by simp, World.ownsRow_lit w #[] 0 (Nat.le_refl _) (by decide) rfl, (Below.refl _ _).alloc (Nat.le_refl _) _, by omega⟩
  case round =>
    obtain ⟨k, hk, rfl, hown, hbel, hall⟩ := hrel
    have HH := Lib.hid hall
    have HOW := Lib.hid hown
    have HBL := Lib.hid hbel
    clear hall hown hbel
    by_cases h0 : 0 < N / 256 ^ k
    · have hge : 256 ^ k ≤ N := by
        rcases Nat.lt_or_ge N (256 ^ k) with h1 | h1
        · rw [Nat.div_eq_of_lt h1] at h0; omega
        · exact h1
      have hk7 : k ≤ 7 := by
        rcases Nat.lt_or_ge k 8 with h1 | h1
        · omega
        · have : 256 ^ 8 ≤ 256 ^ k := Nat.pow_le_pow_right (by omega) h1
          omega
      have HST := Lib.hid (show ∀ j, j < k + 1 → 256 ^ j ≤ N from by
        intro j hj
        rcases Nat.lt_or_ge j k with h | h
        · exact HH.out j h
        · have e : j = k := by omega
          subst e; exact hge)
      have HNX := Lib.hid (show N / 256 ^ (k + 1) = N / 256 ^ k / 256 by rw [Nat.pow_succ, Nat.div_div_eq_div_mul])
      have HPX := Lib.hid (show putB N (k + 1) = N / 256 ^ k % 256 :: putB N k from rfl)
      have HUL := Lib.hid (show (U8 (putB N k)).length = k by simp [U8, length_putB])
      have hy : N / 256 ^ k < 9223372036854775808 := Nat.lt_of_le_of_lt (Nat.div_le_self _ _) hN
      clear hge
      generalize N / 256 ^ k = y at *
      obtain ⟨r, hr⟩ : ∃ r, r = y % 256 := ⟨_, rfl⟩
      obtain ⟨q, hq⟩ : ∃ q, q = y / 256 := ⟨_, rfl⟩
      rw [← hr] at HPX
      rw [← hq] at HNX
      have t1 : (y : Int).tmod 256 = (r : Int) := by rw [Int.tmod_eq_emod_of_nonneg (by omega)]; omega
      have t2 : (y : Int).tdiv 256 = (q : Int) := by rw [Int.tdiv_eq_ediv_of_nonneg (by omega)]; omega
      have w1 : IntKind.i64.wrap (r : Int) = (r : Int) := IntWalk.i64_in _ (by omega)
      have w2 : IntKind.i64.wrap (q : Int) = (q : Int) := IntWalk.i64_in _ (by omega)
      have w3 : IntKind.u8.wrap (r : Int) = (r : Int) := u8_byte r (by omega)
      have hqy : q < y := by omega
      have b1 : (0 : Int) < (y : Int) := by omega
      have hx1 : 1 + k ≤ maxLen := by unfold maxLen; omega
      have hsz := HBL.out.size
      obtain ⟨A0, c0, rfl, hrd⟩ := own_shape HOW.out
      have hnil : A0 = none → c0 = 0 := by
        intro e
        subst e
        rcases HOW.out.2 with ⟨h, _⟩ | ⟨g, cap, cur, h, _⟩
        · cases h; rfl
        · cases h
      have HRD := Lib.hid (hrd.alloc (Nat.le_refl _) (.cells #[.int .u8 (r : Int)] 5))
      have HOL := Lib.hid (show (wr.alloc (.cells #[.int .u8 (r : Int)] 5)).ownsRow w.heap.size 5 1 (.slice (some ⟨wr.heap.size, 0, none⟩) 1 1) 1 (U8 [r]) from World.ownsRow_lit wr #[.int .u8 (r : Int)] 1 hsz (by decide) rfl)
      have hsz2 : w.heap.size ≤ (wr.alloc (.cells #[.int .u8 (r : Int)] 5)).heap.size := Nat.le_trans hsz (below_lit wr _ _).size
      clear hr hq hrd
      go_wp2_with (at_builtin; refine wpList_append_rd _ rfl _ _ 52 rfl w.heap.size 5 i0 (.int .u8 0) 1 Try.underlying52 hi hz0 hz1 hz2 rfl _ 1 (U8 [r]) rfl HOL.out wr.heap.size A0 k c0 (U8 (putB N k)) rfl HRD.out HUL.out hnil (U8_one _) hx1 (by omega) hsz2 ?_; intro v' w' hown' hg')
      have HO2 := Lib.hid (show w'.ownsRow w.heap.size 5 1 v' (k + 1) (U8 (putB N (k + 1))) by rw [HPX.out, Nat.add_comm k 1]; exact hown')
      have HB2 := Lib.hid (show Below w.heap.size w w' from (HBL.out.trans ((below_lit wr _ _).mono hsz)).grown hg' hsz2 (fun p hp => own_ge HOL.out hp))
      clear hown' hg'
      go_wp2
      go_roundw
      case rel => exact ⟨k + 1, by omega, by rw [HNX.out], HO2.out, HB2.out, HST.out⟩
      case measure => simp [intOf]; omega
    · have e : sizeN N = k := by
        refine sizeN_eq hN ?_ HH.out
        rcases Nat.lt_or_ge N (256 ^ k) with h1 | h1
        · exact h1
        · exact absurd (Nat.div_pos h1 (Nat.pow_pos (by omega))) h0
      have e0 : N / 256 ^ k = 0 := Nat.eq_zero_of_le_zero (Nat.le_of_not_lt h0)
      rw [e0]
      have hl : p.length = k := by rw [HL.out, e]
      have hown := HOW.out
      rw [HP.out k e] at hown
      have HO := Lib.hid hown
      have HLL := Lib.hid hl
      clear h0 e0 e hl hown
      go_wp2
      go_ret2
      exact ⟨_, rfl, by rw [HLL.out]; exact HO.out, HBL.out⟩
set_option maxRecDepth 100000 in
theorem refnumber_any (n : Int) (hn : n < 9223372036854775808) (E : Nat) (p : List Nat) (hp : outN n = (E, p)) (w : World) :
    Calls Try.prog 28 #[.int .i64 n] w fun e w' => ∃ A' c', e = .returned (.tuple #[.slice A' (p.length : Nat) c', .int .i64 (E : Int)]) ∧ Bs w' w'.heap.size p A' c' ∧ Below w.heap.size w w' := by
  by_cases h0 : n < 0
  · rw [outN_neg h0] at hp
    cases hp
    go_enter Try.func28, Try.ntmps28
    go_wp2
    go_ret2
    exact ⟨none, 0, rfl, Bs.empty _ _, Below.refl _ _⟩
  · obtain ⟨N, rfl⟩ : ∃ N : Nat, n = (N : Int) := ⟨n.toNat, by omega⟩
    rw [outN_nat] at hp
    cases hp
    refine (refnumber_own N (by omega) (numB N) rfl w).mono ?_
    rintro e w1 ⟨v, rfl, hown, hb⟩
    obtain ⟨A, c, rfl, hbs⟩ := bs_of_own hown (numB_lt N)
    exact ⟨_, _, rfl, hbs, hb⟩
theorem ret2_nat {v : Value} {a b : Nat} (h : a = b) : Ending.returned (.tuple #[.int .i64 (a : Int), v]) = .returned (.tuple #[.int .i64 (b : Int), v]) := by rw [h]
set_option maxRecDepth 100000 in
theorem tpvalue_any (b : List Nat) (n : Nat) (hn : n = b.length) (v E : Nat) (hv : valT b = (v, E)) (A : Option Addr) (c : Nat) (w : World) (hA : Bs w w.heap.size b A c) :
    Calls Try.prog 40 #[.slice A n c] w fun e w' => e = .returned (.tuple #[.int .i64 (v : Int), .int .i64 (E : Int)]) ∧ w = w' := by
  have h63 : n ≤ 9223372036854775807 := by have h1 := hA.len; have h2 := hA.cap; omega
  by_cases h0 : n = 0
  · rw [valT_bad (.inl (by omega))] at hv
    cases hv
    subst h0
    clear hn hA
    go_enter Try.func40, Try.ntmps40
    go_wp2
    go_ret2
    exact ⟨rfl, rfl⟩
  · have b0 : ((n : Int) == 0) = false := by rw [beq_eq_false_iff_ne]; omega
    have b0' : (n == 0) = false := by rw [beq_eq_false_iff_ne]; omega
    have b1 : (0 : Int) < (n : Int) := by omega
    have b1' : ¬ (n : Int) < 1 := by omega
    by_cases h7 : 7 < n
    · rw [valT_bad (.inr (.inl (by omega)))] at hv
      cases hv
      have b7 : (7 : Int) < (n : Int) := by omega
      clear hn hA
      go_enter Try.func40, Try.ntmps40
      go_wp2
      go_ret2
      exact ⟨rfl, rfl⟩
    · have b7 : ¬ (7 : Int) < (n : Int) := by omega
      obtain ⟨ad, rfl, _, hc⟩ := hA.rd 0 _ (U8_at b 0 (by omega))
      rw [add_zero'] at hc
      have e0 : b.getD 0 0 = b[0]'(by omega) := by rw [List.getD_eq_getElem?_getD, List.getElem?_eq_getElem (by omega)]; rfl
      obtain ⟨x, hx⟩ : ∃ x, x = b[0]'(by omega) := ⟨_, rfl⟩
      rw [← hx] at hc e0
      clear hx
      have HN := Lib.hid hn
      have HA := Lib.hid hA
      have HV := Lib.hid hv
      have HE := Lib.hid e0
      clear hn hA hv e0
      by_cases hx0 : x = 0
      · subst hx0
        have hv := HV.out
        rw [valT_bad (.inr (.inr HE.out))] at hv
        cases hv
        go_enter Try.func40, Try.ntmps40
        go_wp2
        go_ret2
        exact ⟨rfl, rfl⟩
      · have x1 : ((x : Int) == 0) = false := by rw [beq_eq_false_iff_ne]; omega
        have x2 : (x == 0) = false := by rw [beq_eq_false_iff_ne]; omega
        have hv := HV.out
        rw [valT_ok (by rw [← HN.out]; omega) (by rw [← HN.out]; omega) (by rw [HE.out]; exact hx0)] at hv
        obtain ⟨hv1, rfl⟩ := Prod.mk.inj hv
        have HV1 := Lib.hid hv1
        have hg := get_ok b (some ad) c w.heap.size w HA.out.rd HA.out.lt (by rw [← HN.out]; omega) (fun h => by have := HN.out; omega)
        rw [← HN.out] at hg
        have HG := Lib.hid hg
        clear hv hv1 hg hx0
        go_enter Try.func40, Try.ntmps40
        go_wp2_with fail
        refine HG.out.mono ?_
        rintro e w1 ⟨rfl, rfl⟩
        rw [HV1.out]
        go_wp2
        go_ret2
        exact ⟨rfl, rfl⟩
set_option maxRecDepth 100000 in
theorem trefvalue_any (b : List Nat) (n : Nat) (hn : n = b.length) (v E : Nat) (hv : valT b = (v, E)) (A : Option Addr) (c : Nat) (w : World) (hA : Bs w w.heap.size b A c) :
    Calls Try.prog 35 #[.slice A n c] w fun e w' => e = .returned (.tuple #[.int .i64 (v : Int), .int .i64 (E : Int)]) ∧ w = w' := by
  have h63 : n ≤ 9223372036854775807 := by have h1 := hA.len; have h2 := hA.cap; omega
  by_cases h0 : n = 0
  · rw [valT_bad (.inl (by omega))] at hv
    cases hv
    subst h0
    clear hn hA
    go_enter Try.func35, Try.ntmps35
    go_wp2
    go_ret2
    exact ⟨rfl, rfl⟩
  · have b0 : ((n : Int) == 0) = false := by rw [beq_eq_false_iff_ne]; omega
    have b0' : (n == 0) = false := by rw [beq_eq_false_iff_ne]; omega
    have b1 : (0 : Int) < (n : Int) := by omega
    have b1' : ¬ (n : Int) < 1 := by omega
    by_cases h7 : 7 < n
    · rw [valT_bad (.inr (.inl (by omega)))] at hv
      cases hv
      have b7 : (7 : Int) < (n : Int) := by omega
      clear hn hA
      go_enter Try.func35, Try.ntmps35
      go_wp2
      go_ret2
      exact ⟨rfl, rfl⟩
    · have b7 : ¬ (7 : Int) < (n : Int) := by omega
      obtain ⟨ad, rfl, _, hc⟩ := hA.rd 0 _ (U8_at b 0 (by omega))
      rw [add_zero'] at hc
      have e0 : b.getD 0 0 = b[0]'(by omega) := by rw [List.getD_eq_getElem?_getD, List.getElem?_eq_getElem (by omega)]; rfl
      obtain ⟨x, hx⟩ : ∃ x, x = b[0]'(by omega) := ⟨_, rfl⟩
      rw [← hx] at hc e0
      clear hx
      have HN := Lib.hid hn
      have HA := Lib.hid hA
      have HV := Lib.hid hv
      have HE := Lib.hid e0
      clear hn hA hv e0
      by_cases hx0 : x = 0
      · subst hx0
        have hv := HV.out
        rw [valT_bad (.inr (.inr HE.out))] at hv
        cases hv
        go_enter Try.func35, Try.ntmps35
        go_wp2
        go_ret2
        exact ⟨rfl, rfl⟩
      · have x1 : ((x : Int) == 0) = false := by rw [beq_eq_false_iff_ne]; omega
        have x2 : (x == 0) = false := by rw [beq_eq_false_iff_ne]; omega
        have hv := HV.out
        rw [valT_ok (by rw [← HN.out]; omega) (by rw [← HN.out]; omega) (by rw [HE.out]; exact hx0)] at hv
        obtain ⟨hv1, rfl⟩ := Prod.mk.inj hv
        have HV1 := Lib.hid hv1
        have hg := refget_ok b (some ad) c w.heap.size w HA.out.rd HA.out.lt (by rw [← HN.out]; omega) (fun h => by have := HN.out; omega)
        rw [← HN.out] at hg
        have HG := Lib.hid hg
        clear hv hv1 hg hx0
        go_enter Try.func35, Try.ntmps35
        go_wp2_with fail
        refine HG.out.mono ?_
        rintro e w1 ⟨rfl, rfl⟩
        rw [HV1.out]
        go_wp2
        go_ret2
        exact ⟨rfl, rfl⟩
end Go.Proofs.Ytaldpioahnbkgaa
