/-
  Contracts for the landed functions of package bcd. Conditions: the slices read.
-/
import Derived.Test.YtpeccmcojocgkaaMem
import Derived.Test.YtpeccmcojocgkaaBsRow
import Derived.Test.YtpeccmcojocgkaaBcdMath
import Derived.Test.YtpeccmcojocgkaaBcdVals
import Derived.RangeFuncNested
import Derived.RangeFuncBound
import Derived.RangeFuncLeaves
import Derived.RangeFuncBox
import Derived.Shelf.Abstract
import Derived.WalkKit
import Derived.OwnWalkIn
import Derived.TacticsInMore
import Derived.LoopNIn
import Derived.LoopIn
import Derived.Maps.OwnIn
import Derived.Maps.AppendAt
import Derived.Maps.Views
namespace Go.Proofs.Ytpeccmcojocgkaa
set_option linter.unusedVariables false
open Go.ChangeShapes Go.WideShapes Go.ChangeAt Go.RowKit

theorem pwidth_any (n : Int) (b : Bool) (hb : decide (0 ≤ n ∧ n ≤ 18) = b) (w : World) : Calls Try.prog 49 #[.int .i64 n] w fun e w' => e = .returned (.bool b) ∧ w = w' := by
  have HB := Lib.hid hb
  clear hb
  by_cases h0 : ¬ 0 ≤ n
  · have h1 : n < 0 := by omega
    obtain rfl : b = false := by rw [← HB.out]; exact decide_eq_false (by omega)
    clear HB
    go_enter Try.func49, Try.ntmps49
    go_wp2
    go_ret
    exact ⟨rfl, rfl⟩
  have h1 : 0 ≤ n := by omega
  by_cases h2 : n ≤ 18
  · obtain rfl : b = true := by rw [← HB.out]; exact decide_eq_true (by omega)
    clear HB h0
    go_enter Try.func49, Try.ntmps49
    go_wp2
    go_ret
    exact ⟨rfl, rfl⟩
  · obtain rfl : b = false := by rw [← HB.out]; exact decide_eq_false (by omega)
    have h3 : 18 < n := by omega
    clear HB h0
    go_enter Try.func49, Try.ntmps49
    go_wp2
    go_ret
    exact ⟨rfl, rfl⟩
set_option linter.unusedVariables false
open Go.ChangeShapes Go.WideShapes Go.ChangeAt Go.RowKit

set_option maxRecDepth 100000 in
set_option maxHeartbeats 1600000 in
theorem pget_any (l : List Nat) (n : Nat) (hn : n = l.length) (E : Int) (N : Nat) (hE : getX l = (E, N)) (A : Option Addr) (c : Nat) (w : World) (hA : Bs w w.heap.size l A c) :
    Calls Try.prog 36 #[.slice A n c] w fun e w' => e = .returned (.tuple #[.int .i64 (N : Nat), .int .i64 E]) ∧ w = w' := by
  have h63 : n ≤ 9223372036854775807 := by have := hA.len; have := hA.cap; omega
  have HN := Lib.hid hn
  have HA := Lib.hid hA
  have HE := Lib.hid hE
  clear hn hA hE
  by_cases h18 : 18 < n
  · have h1 : getX l = (1, 0) := by rw [getX, if_pos (by rw [← HN.out]; exact h18)]
    obtain ⟨rfl, rfl⟩ : E = 1 ∧ N = 0 := by have := HE.out; rw [h1] at this; exact ⟨(Prod.mk.inj this).1.symm, (Prod.mk.inj this).2.symm⟩
    clear HE h1
    have hd := decide_eq_false (show ¬ ((0 : Int) ≤ (n : Int) ∧ (n : Int) ≤ 18) by omega)
    go_enter Try.func36, Try.ntmps36
    go_wp2_with (go_at_call 49; refine (pwidth_any (n : Int) false hd _).mono ?_; rintro e w1 ⟨rfl, rfl⟩)
    go_ret2
    exact ⟨rfl, rfl⟩
  have h18' : n ≤ 18 := by omega
  have HR := Lib.hid (show getR l 0 = (E, N) by rw [← HE.out, getX, if_neg (by rw [← HN.out]; exact h18)])
  clear h18 HE h63
  have hd := decide_eq_true (show (0 : Int) ≤ (n : Int) ∧ (n : Int) ≤ 18 by omega)
  go_enter Try.func36, Try.ntmps36
  go_wp2_with (go_at_call 49; refine (pwidth_any (n : Int) true hd _).mono ?_; rintro e w1 ⟨rfl, rfl⟩)
  clear hd
  go_loop [4, 6, 13] (fun t _ i => ∃ (k a : Nat), k ≤ n ∧ i = .int .i64 k ∧ t = .int .i64 (a : Nat) ∧ a < 10 ^ k ∧ getR (l.drop k) a = (E, N)) (fun _ _ i => n - (intOf i).toNat)
  case atStart => exact ⟨0, 0, Nat.zero_le _, rfl, rfl, by decide, HR.out⟩
  case round =>
    obtain ⟨k, a, hk, rfl, rfl, ha, hr⟩ := hrel
    by_cases hlt : k < n
    · have hkl : k < l.length := by rw [← HN.out]; exact hlt
      obtain ⟨ad, rfl, hb, hc⟩ := HA.out.rd k _ (U8_at l k hkl)
      rw [drop_at hkl] at hr
      generalize l[k] = x at *
      have h10 := pow18 (show k ≤ 18 by omega)
      have h11 : k + 1 ≤ 18 := by omega
      have HS := Lib.hid hr
      clear hr hkl
      by_cases hx : 9 < x
      · obtain ⟨rfl, rfl⟩ : E = 7 ∧ N = 0 := by have := HS.out; rw [getR, if_pos hx] at this; exact ⟨(Prod.mk.inj this).1.symm, (Prod.mk.inj this).2.symm⟩
        clear HS
        go_wp2
        go_ret2
        exact ⟨rfl, rfl⟩
      · have hx9 : x ≤ 9 := by omega
        have hr2 : getR (l.drop (k + 1)) (10 * a + x) = (E, N) := by have := HS.out; rwa [getR, if_neg hx] at this
        have ha2 : 10 * a + x < 10 ^ (k + 1) := by rw [Nat.pow_succ]; omega
        have hb2 := Nat.lt_of_lt_of_le ha2 (pow18 h11)
        have HR2 := Lib.hid hr2
        have HA2 := Lib.hid ha2
        have HAK := Lib.hid ha
        have w1 : IntKind.i64.wrap (10 * (a : Int)) = 10 * (a : Int) := IntWalk.i64_in _ (by omega)
        have w2 : IntKind.i64.wrap ((a : Int) * 10) = (a : Int) * 10 := IntWalk.i64_in _ (by omega)
        have w3 : IntKind.i64.wrap (10 * (a : Int) + (x : Int)) = 10 * (a : Int) + (x : Int) := IntWalk.i64_in _ (by omega)
        have w4 : IntKind.i64.wrap ((a : Int) * 10 + (x : Int)) = (a : Int) * 10 + (x : Int) := IntWalk.i64_in _ (by omega)
        clear HS hx hr2 ha2 ha h10
        go_wp2
        go_round
        case rel => exact ⟨k + 1, 10 * a + x, by omega, by go_num, by go_num, HA2.out, HR2.out⟩
        case measure => simp [intOf]; omega
    · have e : l.drop k = [] := List.drop_of_length_le (by rw [← HN.out]; omega)
      rw [e, getR] at hr
      obtain ⟨rfl, rfl⟩ : E = 0 ∧ N = a := ⟨(Prod.mk.inj hr).1.symm, (Prod.mk.inj hr).2.symm⟩
      have h10 := Nat.lt_of_lt_of_le ha (pow18 (show k ≤ 18 by omega))
      clear hr e ha
      go_wp2
      go_ret2
      exact ⟨rfl, rfl⟩
set_option linter.unusedVariables false
open Go.ChangeShapes Go.WideShapes Go.ChangeAt Go.RowKit

theorem pput_arg (n s : Int) (w : World) (h : n < 0 ∨ s < 0 ∨ 18 < s) : Calls Try.prog 32 #[.int .i64 n, .int .i64 s] w fun e w' => e = .returned (.tuple #[.slice none 0 0, .int .i64 1]) ∧ w = w' := by
  by_cases h1 : n < 0
  · clear h
    go_enter Try.func32, Try.ntmps32
    go_wp2
    go_ret2
    exact ⟨rfl, rfl⟩
  · have h2 : 0 ≤ n := by omega
    have hd := decide_eq_false (show ¬ (0 ≤ s ∧ s ≤ 18) by omega)
    clear h
    go_enter Try.func32, Try.ntmps32
    go_wp2_with (go_at_call 49; refine (pwidth_any s false hd _).mono ?_; rintro e w1 ⟨rfl, rfl⟩)
    go_ret2
    exact ⟨rfl, rfl⟩
set_option maxRecDepth 100000 in
set_option maxHeartbeats 1600000 in
theorem pput_fit (N s : Nat) (E : Int) (p : List Nat) (hE : putE N s = E) (hp : putL N s = p) (w : World) (hN : N < 9223372036854775808) (hs : s ≤ 18) :
    Calls Try.prog 32 #[.int .i64 N, .int .i64 s] w fun e w' => ∃ A c, e = .returned (.tuple #[.slice A (p.length : Nat) c, .int .i64 E]) ∧ Bs w' w'.heap.size p A c ∧ Below w.heap.size w w' := by
  obtain ⟨i0, hi, hz0, hz1, hz2⟩ := info_parts infoU8
  have HE := Lib.hid hE
  have HP := Lib.hid hp
  have hd := decide_eq_true (show (0 : Int) ≤ (s : Int) ∧ (s : Int) ≤ 18 by omega)
  have g1 : (0 : Int) ≤ (s : Int) := by omega
  clear hE hp
  go_enter Try.func32, Try.ntmps32
  go_wp2_with (first | (go_at_call 49; refine (pwidth_any (s : Int) true hd _).mono ?_; rintro e w1 ⟨rfl, rfl⟩) | (at_make; refine wpList_make_full _ rfl _ _ 28 rfl w.heap.size 5 i0 (.int .u8 0) 1 Try.underlying28 hi hz0 hz1 _ _ _ _ s rfl rfl (by omega) (by omega) ?b2 ?b3 (Nat.le_refl _) ?_))
  case b2 => rw [hz2]; omega
  case b3 => unfold maxLen; omega
  intro w1 hown hg
  have hown1 : w1.ownsRow w.heap.size 5 1 (.slice (some ⟨w.heap.size, 0, none⟩) s s) s (U8 (dgTo N s 0)) := by
    rw [toList_madeCells_one] at hown
    rw [dgTo_zero, U8, List.map_replicate]
    exact hown
  have hbel : Below w.heap.size w w1 := (Below.refl _ _).grown hg (Nat.le_refl _) (by simp)
  have s1 : IntKind.i64.wrap ((s : Int) - 1) = (s : Int) - 1 := IntWalk.i64_in _ (by omega)
  clear hown hg
  go_wp2
  go_loopw [0, 7] (fun m i wr => ∃ k : Nat, k ≤ s ∧ i = .int .i64 ((s : Int) - 1 - (k : Int)) ∧ m = .int .i64 (N / 10 ^ k : Nat) ∧ wr.ownsRow w.heap.size 5 1 (.slice (some ⟨w.heap.size, 0, none⟩) s s) s (U8 (dgTo N s k)) ∧ Below w.heap.size w wr) (fun _ i _ => (intOf i + 1).toNat)
  case atStart => exact ⟨0, Nat.zero_le _, by simp, by simp, hown1, hbel⟩
  case round =>
    clear hown1 hbel
    obtain ⟨k, hk, rfl, rfl, hown, hbel⟩ := hrel
    have hy : N / 10 ^ k < 9223372036854775808 := Nat.lt_of_le_of_lt (Nat.div_le_self _ _) hN
    by_cases hlt : k < s
    · have hc2 : ∃ v, wr.cell? ⟨w.heap.size, s - 1 - k, none⟩ = some v := by
        rw [hown.cellAt (s - 1 - k) (by omega), U8, List.getElem?_map]
        rw [List.getElem?_eq_getElem (by rw [dgTo_len _ _ _ hk]; omega)]
        exact ⟨_, rfl⟩
      obtain ⟨v2, hc2⟩ := hc2
      have hf := hown.frozenAt (s - 1 - k)
      have hst := (hown.stored (s - 1 - k) (.int .u8 ((N / 10 ^ k % 10 : Nat) : Int))).1
      have hset : (U8 (dgTo N s k)).set (s - 1 - k) (.int .u8 ((N / 10 ^ k % 10 : Nat) : Int)) = U8 (dgTo N s (k + 1)) := by
        rw [← dgTo_set N s k hlt, U8, U8, List.map_set]
      rw [hset] at hst
      have hnx : N / 10 ^ (k + 1) = N / 10 ^ k / 10 := by rw [Nat.pow_succ, Nat.div_div_eq_div_mul]
      have HNX := Lib.hid hnx
      clear hset hnx
      generalize N / 10 ^ k = y at *
      have HST := Lib.hid hst
      have HOW := Lib.hid hown
      have HC2 := hc2
      clear hst hown
      obtain ⟨j, hj⟩ : ∃ j : Nat, j = s - 1 - k := ⟨_, rfl⟩
      have hj2 : (s : Int) - 1 - (k : Int) = (j : Int) := by omega
      have hjs : (j : Int) < (s : Int) := by omega
      have hj3 : IntKind.i64.wrap ((j : Int) - 1) = (j : Int) - 1 := IntWalk.i64_in _ (by omega)
      rw [← hj] at HC2 hf HST hc2
      rw [hj2]
      have HJ := Lib.hid hj
      have HJ2 := Lib.hid hj2
      clear hj hj2 HC2
      go_wp2
      go_roundw
      case rel =>
        refine ⟨k + 1, by omega, ?_, ?_, ?_, hbel.setCell (Nat.le_refl _) _⟩
        · have := HJ2.out; exact congrArg (Value.int .i64) (by omega)
        · rw [HNX.out]; go_num
        · exact HST.out
      case measure => simp only [intOf]; omega
    · have e1 : k = s := by omega
      subst e1
      rw [dgTo_all] at hown
      have hneg : (k : Int) - 1 - (k : Int) = -1 := by omega
      rw [hneg]
      have HO := Lib.hid hown
      clear hown
      by_cases hov : 10 ^ k ≤ N
      · have hpos : 0 < N / 10 ^ k := Nat.div_pos hov (pow_pos10 k)
        obtain ⟨e1, e2⟩ := put_over hs hov
        obtain rfl : E = 23 := by rw [← HE.out, e1]
        obtain rfl : p = [] := by rw [← HP.out, e2]
        clear HE HP e1 e2 hov
        generalize N / 10 ^ k = y at *
        go_wp2
        go_ret2
        exact ⟨none, 0, rfl, ⟨by intro j u hu; simp [U8] at hu, fun _ => rfl, by simp, by omega, by simp⟩, hbel⟩
      · have hz : N / 10 ^ k = 0 := Nat.div_eq_of_lt (by omega)
        obtain ⟨e1, e2⟩ := put_ok hs (show N < 10 ^ k by omega)
        obtain rfl : E = 0 := by rw [← HE.out, e1]
        have hpl : p = dg N k := by rw [← HP.out, e2]
        have hl : p.length = k := by rw [hpl, dg_len]
        have HPL := Lib.hid hpl
        have HL := Lib.hid hl
        rw [hz]
        clear HE HP e1 e2 hov hpl hl hz
        go_wp2
        go_ret2
        refine ⟨some ⟨w.heap.size, 0, none⟩, k, by rw [HL.out]; rfl, ?_, hbel⟩
        rw [HPL.out]
        exact ⟨Rd.of_own HO.out, by simp, by rw [dg_len]; omega, by omega, fun x hx => by have := dg_lt N k x hx; omega⟩
theorem pput_any (n s : Int) (E : Int) (p : List Nat) (hE : putE n s = E) (hp : putL n s = p) (w : World) (hn : n ≤ 9223372036854775807) :
    Calls Try.prog 32 #[.int .i64 n, .int .i64 s] w fun e w' => ∃ A c, e = .returned (.tuple #[.slice A (p.length : Nat) c, .int .i64 E]) ∧ Bs w' w'.heap.size p A c ∧ Below w.heap.size w w' := by
  by_cases h : n < 0 ∨ s < 0 ∨ 18 < s
  · obtain ⟨e1, e2⟩ := put_arg h
    obtain rfl : E = 1 := by rw [← hE, e1]
    obtain rfl : p = [] := by rw [← hp, e2]
    refine (pput_arg n s w h).mono ?_
    rintro e w1 ⟨rfl, rfl⟩
    exact ⟨none, 0, rfl, ⟨by intro j u hu; simp [U8] at hu, fun _ => rfl, by simp, by omega, by simp⟩, Below.refl _ _⟩
  · obtain ⟨N, rfl⟩ : ∃ N : Nat, n = N := ⟨n.toNat, by omega⟩
    obtain ⟨S, rfl⟩ : ∃ S : Nat, s = S := ⟨s.toNat, by omega⟩
    exact pput_fit N S E p hE hp w (by omega) (by omega)
set_option linter.unusedVariables false
open Go.ChangeShapes Go.WideShapes Go.ChangeAt Go.RowKit

set_option maxRecDepth 100000 in
set_option maxHeartbeats 1600000 in
theorem pjoin_any (vs ws : List Int) (n m : Nat) (hn : n = vs.length) (hm : m = ws.length) (E : Int) (p : List Nat) (hE : joinX vs ws = (E, p)) (A A' : Option Addr) (c c' : Nat) (w : World) (hA : Zs w w.heap.size vs A c) (hA' : Zs w w.heap.size ws A' c') (hv : ∀ v ∈ vs, In64 v) :
    Calls Try.prog 22 #[.slice A n c, .slice A' m c'] w fun e w' => ∃ A2 c2, e = .returned (.tuple #[.slice A2 (p.length : Nat) c2, .int .i64 E]) ∧ Bs w' w'.heap.size p A2 c2 ∧ Below w.heap.size w w' := by
  obtain ⟨i0, hi, hz0, hz1, hz2⟩ := info_parts infoU8
  have h63 : n ≤ 9223372036854775807 := by have := hA.len; have := hA.cap; omega
  have h63' : m ≤ 9223372036854775807 := by have := hA'.len; have := hA'.cap; omega
  have HN := Lib.hid hn
  have HM := Lib.hid hm
  have HA := Lib.hid hA
  have HA' := Lib.hid hA'
  have HE := Lib.hid hE
  have HV := Lib.hid hv
  clear hn hm hA hA' hE hv
  by_cases h1 : n ≠ m ∨ 20 < n
  · have h2 : joinX vs ws = (1, []) := by rw [joinX, if_pos (by rw [← HN.out, ← HM.out]; exact h1)]
    obtain ⟨rfl, rfl⟩ : E = 1 ∧ p = [] := by have := HE.out; rw [h2] at this; exact ⟨(Prod.mk.inj this).1.symm, (Prod.mk.inj this).2.symm⟩
    clear HE h2
    by_cases h3 : n ≠ m
    · have b1 : ((n : Int) != (m : Int)) = true := by simp; omega
      have b2 : (n != m) = true := by simpa using h3
      clear h1
      go_enter Try.func22, Try.ntmps22
      go_wp2
      go_ret2
      exact ⟨none, 0, rfl, bs_nil _, Below.refl _ _⟩
    · obtain rfl : n = m := by omega
      have h4 : 20 < n := by omega
      clear h1 h3
      go_enter Try.func22, Try.ntmps22
      go_wp2
      go_ret2
      exact ⟨none, 0, rfl, bs_nil _, Below.refl _ _⟩
  obtain rfl : n = m := by omega
  have h20 : n ≤ 20 := by omega
  have HR := Lib.hid (show joinR vs ws [] = (E, p) by rw [← HE.out, joinX, if_neg (by rw [← HN.out, ← HM.out]; exact h1)])
  clear h1 HE
  go_enter Try.func22, Try.ntmps22
  go_wp2
  go_loopw [6, 24] (fun v i wr => ∃ (k : Nat) (out : List Nat), k ≤ n ∧ i = .int .i64 k ∧ wr.ownsRow w.heap.size 5 1 v out.length (U8 out) ∧ (∀ x ∈ out, x ≤ 9) ∧ out.length ≤ 18 * k ∧ joinR (vs.drop k) (ws.drop k) out = (E, p) ∧ Below w.heap.size w wr) (fun _ i _ => n - (intOf i).toNat)
  case atStart => exact ⟨0, [], Nat.zero_le _, rfl, World.ownsRow_lit w #[] 0 (Nat.le_refl _) (by decide) rfl, by simp, by simp, HR.out, (Below.refl _ _).alloc (Nat.le_refl _) _⟩
  case round =>
    obtain ⟨k, out, hk, rfl, hown, h9, hlen, hjr, hbel⟩ := hrel
    have HO := Lib.hid hown
    have H9 := Lib.hid h9
    have HBL := Lib.hid hbel
    have HJR := Lib.hid hjr
    clear hown h9 hjr hbel
    by_cases hlt : k < n
    · have hkv : k < vs.length := by rw [← HN.out]; exact hlt
      have hkw : k < ws.length := by rw [← HM.out]; exact hlt
      obtain ⟨x, hx⟩ : ∃ x, vs[k]? = some x := ⟨_, List.getElem?_eq_getElem hkv⟩
      obtain ⟨y, hy⟩ : ∃ y, ws[k]? = some y := ⟨_, List.getElem?_eq_getElem hkw⟩
      have hdv : vs.drop k = x :: vs.drop (k + 1) := by rw [drop_at hkv]; congr 1; rw [List.getElem?_eq_getElem hkv] at hx; exact Option.some.inj hx
      have hdw : ws.drop k = y :: ws.drop (k + 1) := by rw [drop_at hkw]; congr 1; rw [List.getElem?_eq_getElem hkw] at hy; exact Option.some.inj hy
      have hx64 : In64 x := HV.out x (List.mem_of_getElem? hx)
      obtain ⟨ad, rfl, hb, hc⟩ := (HA.out.next HBL.out).at hx
      obtain ⟨ad', rfl, hb', hc'⟩ := (HA'.out.next HBL.out).at hy
      have HX := Lib.hid hx64
      have hj := HJR.out
      rw [hdv, hdw, joinR, List.headD_cons, List.tail_cons] at hj
      have b1 : (0 : Int) ≤ (k : Int) := by omega
      have b2 : (k : Int) < (n : Int) := by omega
      clear hkv hkw hx hy hdv hdw HJR
      by_cases h0 : putE x y = 0
      · rw [if_pos h0] at hj
        have HJ := Lib.hid hj
        clear hj
        obtain ⟨q, hq⟩ : ∃ q, q = putL x y := ⟨_, rfl⟩
        have hq18 : q.length ≤ 18 := by rw [hq]; exact put_le x y
        have hq9 : ∀ z ∈ q, z ≤ 9 := by rw [hq]; exact put_lt x y
        have HQ9 := Lib.hid hq9
        have HP0 := Lib.hid h0
        have HQ := Lib.hid hq
        rw [← hq] at HJ
        clear hq9 h0 hq
        go_wp2_with (first | (go_at_call 32; refine (pput_any x y 0 q HP0.out HQ.out.symm _ HX.out.2).mono ?_; rintro e w1 ⟨A1, c1, rfl, hb1, hbd⟩; have HB1 := Lib.hid hb1; have HBD := Lib.hid (hbd.mono (Nat.le_refl _)); have HBL1 := Lib.hid (HBL.out.trans (hbd.mono HBL.out.size)); clear hb1 hbd) | (at_builtin; refine wpList_append_rd _ rfl _ _ 28 rfl w.heap.size 5 i0 (.int .u8 0) 1 Try.underlying28 hi hz0 hz1 hz2 rfl _ out.length (U8 out) rfl (own_below HO.out HBD.out) _ _ q.length c1 (U8 q) rfl HB1.out.rd (by simp [U8]) HB1.out.nil (U8_one _) ?c3 ?c4 ?c5 ?_))
        case c3 => unfold maxLen; omega
        case c4 => omega
        case c5 => have := HBL1.out.size; omega
        intro v' w2 hown' hgrow
        have hown1 : w2.ownsRow w.heap.size 5 1 v' (out ++ q).length (U8 (out ++ q)) := by
          rw [List.length_append, U8, List.map_append]; exact hown'
        have hbel2 : Below w.heap.size w w2 := HBL1.out.grown hgrow HBL1.out.size (fun j hj => own_ge (own_below HO.out HBD.out) hj)
        have HO2 := Lib.hid hown1
        clear hown' hgrow hown1
        go_wp2
        go_roundw
        case rel => exact ⟨k + 1, out ++ q, by omega, by go_num, HO2.out, fun z hz => (List.mem_append.1 hz).elim (H9.out z) (HQ9.out z), by rw [List.length_append]; omega, HJ.out, hbel2⟩
        case measure => simp [intOf]; omega
      · rw [if_neg h0] at hj
        have hEE : putE x y = E := (Prod.mk.inj hj).1
        obtain rfl : p = [] := (Prod.mk.inj hj).2.symm
        obtain ⟨q, hq⟩ : ∃ q, q = putL x y := ⟨_, rfl⟩
        have hne : (E != 0) = true := by rw [← hEE]; simpa using h0
        have HEE := Lib.hid hEE
        have HQ := Lib.hid hq
        clear h0 hj hEE hq
        go_wp2_with (go_at_call 32; refine (pput_any x y E q HEE.out HQ.out.symm _ HX.out.2).mono ?_; rintro e w1 ⟨A1, c1, rfl, hb1, hbd⟩; have HBL1 := Lib.hid (HBL.out.trans (hbd.mono HBL.out.size)); clear hb1 hbd)
        go_ret2
        exact ⟨none, 0, rfl, bs_nil _, HBL1.out⟩
    · have e1 : k = n := by omega
      subst e1
      have hj := HJR.out
      rw [List.drop_of_length_le (by rw [← HN.out]; omega), joinR] at hj
      obtain ⟨rfl, rfl⟩ : E = 0 ∧ p = out := ⟨(Prod.mk.inj hj).1.symm, (Prod.mk.inj hj).2.symm⟩
      obtain ⟨A2, c2, rfl, hbs⟩ := bs_of_own HO.out (fun x hx => by have := H9.out x hx; omega)
      have HBS := Lib.hid hbs
      clear HJR hj hbs
      go_wp2
      go_ret2
      exact ⟨A2, c2, rfl, HBS.out, HBL.out⟩
set_option linter.unusedVariables false
open Go.ChangeShapes Go.WideShapes Go.ChangeAt Go.RowKit Go.Shelf
attribute [local go_sem] Oper.semAt_some

theorem add_zero0 (ad : Addr) : ad.add 0 = ad := by simp [Addr.add]
theorem add_addr (ad : Addr) (i j : Nat) : (ad.add i).add j = ad.add (i + j) := by
  unfold Addr.add
  split <;> split <;> simp_all <;> omega
/-- A part of l, where l lies at A: where it lies, if it has a byte. -/
def IsPart (A : Option Addr) (l : List Nat) (a : Option Addr) (s : List Nat) : Prop := s ≠ [] → ∃ o, a = A.map (fun x => x.add o) ∧ ∃ t, l.drop o = s ++ t
theorem part_bs {W : World} {B : Nat} {l : List Nat} {A : Option Addr} {c : Nat} (h : Bs W B l A c) {a : Option Addr} {s : List Nat} (hp : IsPart A l a s) (h63 : s.length ≤ 9223372036854775807) : Bs W B s a s.length := by
  by_cases hs : s = []
  · subst hs
    exact ⟨by intro j u hu; simp [U8] at hu, fun _ => rfl, by simp, by simp, by simp⟩
  obtain ⟨o, ha, t, ht⟩ := hp hs
  have hat : ∀ k u, (U8 s)[k]? = some u → (U8 l)[o + k]? = some u := by
    intro k u hu
    have hk : k < s.length := by
      rcases Nat.lt_or_ge k s.length with h1 | h1
      · exact h1
      · rw [List.getElem?_eq_none (by simpa [U8] using h1)] at hu; cases hu
    have : (l.drop o)[k]? = s[k]? := by rw [ht, List.getElem?_append_left hk]
    rw [List.getElem?_drop] at this
    rw [U8, List.getElem?_map] at hu ⊢
    rw [this]; exact hu
  refine ⟨fun k u hu => ?_, fun he => ?_, Nat.le_refl _, h63, fun x hx => h.lt x ?_⟩
  · obtain ⟨ad, rfl, hb, hc⟩ := h.rd _ _ (hat k u hu)
    refine ⟨ad.add o, ha, by rw [add_block]; exact hb, ?_⟩
    rw [add_addr]; exact hc
  · have : 0 < s.length := List.length_pos_iff.2 hs
    obtain ⟨ad, rfl, hb, hc⟩ := h.rd _ _ (hat 0 _ (by rw [U8, List.getElem?_map, List.getElem?_eq_getElem this]; rfl))
    rw [ha] at he; cases he
  · have : x ∈ l.drop o := by rw [ht]; exact List.mem_append_left _ hx
    exact List.mem_of_mem_drop this
/-- What is left of l. -/
def IsRest (A : Option Addr) (l : List Nat) (a : Option Addr) (r : List Nat) : Prop := r ≠ [] → ∃ o, a = A.map (fun x => x.add o) ∧ l.drop o = r
theorem rest_all (A : Option Addr) (l : List Nat) : IsRest A l A l := fun _ => ⟨0, by cases A <;> simp [add_zero0], rfl⟩
theorem rest_part {A : Option Addr} {l : List Nat} {a : Option Addr} {r : List Nat} (h : IsRest A l a r) (y : Nat) : IsPart A l a (r.take y) := by
  intro hs
  have hr : r ≠ [] := by intro e; apply hs; rw [e]; simp
  obtain ⟨o, h1, h2⟩ := h hr
  exact ⟨o, h1, r.drop y, by rw [h2, List.take_append_drop]⟩
theorem rest_drop {A : Option Addr} {l : List Nat} {a a' : Option Addr} {r : List Nat} {c : Nat} (h : IsRest A l a r) (y : Nat) (hc : r.length ≤ c) (ha : a' = if c = y then a else a.map (fun x => x.add y)) : IsRest A l a' (r.drop y) := by
  intro hs
  have hlt : y < r.length := by
    rcases Nat.lt_or_ge y r.length with h1 | h1
    · exact h1
    · exact (hs (List.drop_of_length_le h1)).elim
  have hr : r ≠ [] := by intro e; rw [e] at hlt; simp at hlt
  obtain ⟨o, h1, h2⟩ := h hr
  refine ⟨o + y, ?_, by rw [← List.drop_drop, h2]⟩
  rw [ha, if_neg (by omega), h1]
  cases A <;> simp [add_addr]
abbrev Pt (A : Option Addr) (l : List Nat) := { p : Option Addr × List Nat // IsPart A l p.1 p.2 }
def encP {A : Option Addr} {l : List Nat} (x : Pt A l) : Array Value := #[.slice x.1.1 x.1.2.length x.1.2.length]
def strs {A : Option Addr} {l : List Nat} (pre : List (Pt A l)) : List (List Nat) := pre.map (fun x => x.1.2)
theorem strs_snoc {A : Option Addr} {l : List Nat} (pre : List (Pt A l)) (x : Pt A l) : strs (pre ++ [x]) = strs pre ++ [x.1.2] := by simp [strs]
theorem Zs.belowB {w w' : World} {B : Nat} {l : List Int} {A : Option Addr} {c : Nat} (h : Zs w B l A c) (hb : Below B w w') : Zs w' B l A c := ⟨h.rd.below hb, h.nil, h.len, h.cap⟩
theorem parts_in (F : Fence) (n : Nat) (hf : F.fn 38) (hro : F.round = none) (A A' : Option Addr) (m c m' c' : Nat) (w : World) :
    CallsIn F n Try.prog 38 #[.slice A m c, .slice A' m' c'] w fun e w' => e = .returned (.func (.func 51) #[] #[.pointer (some ⟨w.heap.size, 0, none⟩), .pointer (some ⟨w.heap.size + 1, 0, none⟩)]) ∧ w' = (w.alloc (.cells #[.slice A m c] 28)).alloc (.cells #[.slice A' m' c'] 32) := by
  refine callsIn_of_wp Try.func38 rfl hf ?_ hro
  simp only [Try.ntmps38, List.size_toArray, List.length_cons, List.length_nil, Nat.reduceAdd, Nat.reduceSub, Array.replicate_succ, Array.replicate_zero, List.push_toArray, List.append_toArray, List.nil_append, List.cons_append]
  gi_wp2
  go_ret
  exact ⟨rfl, rfl⟩
set_option maxRecDepth 100000 in
set_option maxHeartbeats 1600000 in
theorem parts1_in (F : Fence) (n : Nat) (hf : F.fn 51) (hro : F.round = none) (hn : 1 ≤ n) (lp BA BB n₀ : Nat) (l : List Nat) (ws : List Int) (A A' : Option Addr) (ml c m c' : Nat) (hml : ml = l.length) (hm : m = ws.length) (hcl : l.length ≤ c) (hcc : c ≤ 9223372036854775807) (hw : ∀ x ∈ ws, 0 ≤ x ∧ x ≤ 18) (hsum : (l.length : Int) = ws.sum) (h20 : m ≤ 20) (J Jx : List (Pt A l) → World → Prop)
    (hY : ∀ pre x W, J pre W → pre.length < m → YieldAt F (n - 1) Try.prog lp (encP x) W fun e W' =>
      (e = .returned (.bool true) ∧ J (pre ++ [x]) W' ∧ Below n₀ W W') ∨ (e = .returned (.bool false) ∧ Jx (pre ++ [x]) W'))
    (W : World) (hA : W.cell? ⟨BA, 0, none⟩ = some (.slice A ml c)) (hB : W.cell? ⟨BB, 0, none⟩ = some (.slice A' m c')) (hZ : Zs W n₀ ws A' c') (h0 : J [] W) :
    CallsIn F n Try.prog 51 #[.func (.yield lp) #[] #[], .pointer (some ⟨BA, 0, none⟩), .pointer (some ⟨BB, 0, none⟩)] W fun e W' => (∃ v, e = .returned v) ∧
      ((∃ ys, strs ys = cuts l ws ∧ J ys W') ∨ (∃ pre, (∃ t, cuts l ws = strs pre ++ t) ∧ Jx pre W')) := by
  have HA := Lib.hid hA
  have HB := Lib.hid hB
  have HZ := Lib.hid hZ
  have HW := Lib.hid hw
  have HM := Lib.hid hm
  have HML := Lib.hid hml
  have HSUM := Lib.hid hsum
  have HCL := Lib.hid (show ml ≤ c by rw [hml]; exact hcl)
  clear hZ hw hm hml hsum hcl
  refine callsIn_of_wp Try.func51 rfl hf ?_ hro
  simp only [Try.ntmps51, List.size_toArray, List.length_cons, List.length_nil, Nat.reduceAdd, Nat.reduceSub, Array.replicate_succ, Array.replicate_zero, List.push_toArray, List.append_toArray, List.nil_append, List.cons_append]
  gi_wp2
  gi_loopw [4, 10] (fun v i wr => ∃ (k : Nat) (pre : List (Pt A l)) (r : List Nat) (a : Option Addr) (mr cr : Nat), k ≤ m ∧ i = .int .i64 (k : Int) ∧ v = .slice a mr cr ∧ mr = r.length ∧ pre.length = k ∧ cuts l ws = strs pre ++ cuts r (ws.drop k) ∧ (r.length : Int) = (ws.drop k).sum ∧ mr ≤ cr ∧ cr ≤ 9223372036854775807 ∧ IsRest A l a r ∧ J pre wr ∧ Below n₀ W wr)
    (fun _ i _ => m - (intOf i).toNat)
  case atStart => exact ⟨0, [], l, A, ml, c, Nat.zero_le _, rfl, rfl, HML.out, rfl, rfl, HSUM.out, HCL.out, hcc, rest_all A l, h0, Below.refl _ _⟩
  case round =>
    obtain ⟨k, pre, r, a, mr, cr, hk, rfl, rfl, hmr, hpk, hcut, hs, hrc, hcr, hrest, hJ, hbl⟩ := hrel
    have HMR := Lib.hid hmr
    have HPK := Lib.hid hpk
    have HCUT := Lib.hid hcut
    have HS := Lib.hid hs
    have HREST := Lib.hid hrest
    have HBL := Lib.hid hbl
    clear hmr hpk hcut hs hrest hbl
    by_cases hlt : k < m
    · have hkw : k < ws.length := by rw [← HM.out]; exact hlt
      obtain ⟨y, hy⟩ : ∃ y, ws[k]? = some y := ⟨_, List.getElem?_eq_getElem hkw⟩
      have hdw : ws.drop k = y :: ws.drop (k + 1) := by rw [drop_at hkw]; congr 1; rw [List.getElem?_eq_getElem hkw] at hy; exact Option.some.inj hy
      obtain ⟨hy0, hy18⟩ := HW.out y (List.mem_of_getElem? hy)
      obtain ⟨Y, rfl⟩ : ∃ Y : Nat, y = Y := ⟨y.toNat, by omega⟩
      have hsr := sum_nat (ws.drop (k + 1)) (fun x hx => HW.out x (List.mem_of_mem_drop hx))
      have hss := HS.out
      rw [hdw, List.sum_cons] at hss
      have hYr : Y ≤ mr := by have := HMR.out; omega
      have hsd : ((r.drop Y).length : Int) = (ws.drop (k + 1)).sum := by rw [List.length_drop]; have := HMR.out; omega
      have hcut2 : cuts l ws = strs pre ++ (r.take Y :: cuts (r.drop Y) (ws.drop (k + 1))) := by rw [HCUT.out, hdw, cuts, Int.toNat_natCast]
      obtain ⟨ad', rfl, hb', hc'⟩ := (HZ.out.belowB HBL.out).at hy
      have HSD := Lib.hid hsd
      have HC2 := Lib.hid hcut2
      have b1 : (0 : Int) ≤ (k : Int) := by omega
      have b2 : (k : Int) < (m : Int) := by omega
      have b3 : (Y : Int) ≤ (cr : Int) := by omega
      have b4 : (Y : Int) ≤ (mr : Int) := by omega
      have b5 : Y ≤ cr := by omega
      clear hkw hy hdw hsr hss hsd hcut2
      have htl : (r.take Y).length = Y := by rw [List.length_take]; have := HMR.out; omega
      obtain ⟨fn, tmps, assign, body, hy, hR⟩ := hY pre ⟨(a, r.take Y), rest_part HREST.out Y⟩ wr hJ (by rw [HPK.out]; exact hlt)
      dsimp only [encP] at hy
      rw [htl] at hy
      have HR := Lib.hid hR
      have HLT := Lib.hid hlt
      have w1 : IntKind.i64.wrap ((k : Int) + 1) = (k : Int) + 1 := IntWalk.i64_in _ (by omega)
      clear htl hR hJ hlt
      gi_wp2
      refine HR.out.mono ?_
      rintro e' W3 (⟨rfl, hJ3, hk3⟩ | ⟨rfl, hJx3⟩)
      · have HJ3 := Lib.hid hJ3
        have HK3 := Lib.hid hk3
        clear hJ3 hk3 HR hy
        obtain ⟨a2, ha2⟩ : ∃ a2, a2 = if cr = Y then a else a.map (fun x => x.add Y) := ⟨_, rfl⟩
        have HRD := Lib.hid (rest_drop HREST.out Y (by rw [← HMR.out]; exact hrc) ha2)
        have hnew : ∀ (i v : Value), i = .int .i64 ((k : Int) + 1) → v = .slice a2 (mr - Y) (cr - Y) → ∃ (k : Nat) (pre : List (Pt A l)) (r : List Nat) (a : Option Addr) (mr cr : Nat), k ≤ m ∧ i = .int .i64 (k : Int) ∧ v = .slice a mr cr ∧ mr = r.length ∧ pre.length = k ∧ cuts l ws = strs pre ++ cuts r (ws.drop k) ∧ (r.length : Int) = (ws.drop k).sum ∧ mr ≤ cr ∧ cr ≤ 9223372036854775807 ∧ IsRest A l a r ∧ J pre W3 ∧ Below n₀ W W3 := fun i v hi hv =>
          ⟨k + 1, _, r.drop Y, a2, mr - Y, cr - Y, by have := HLT.out; omega, by rw [hi]; rfl, hv, by rw [List.length_drop, ← HMR.out], by rw [List.length_append, HPK.out]; rfl, by rw [strs_snoc, List.append_assoc]; exact HC2.out, HSD.out, by omega, by omega, HRD.out, HJ3.out, HBL.out.trans HK3.out⟩
        have HNEW := Lib.hid hnew
        clear hnew
        by_cases hcy : cr = Y
        · rw [if_pos hcy] at ha2
          subst ha2
          gi_wp2
          go_roundw
          case rel => exact HNEW.out _ _ rfl (by rw [hcy, Nat.sub_self])
          case measure => have := HLT.out; simp [intOf]; omega
        · rw [if_neg hcy] at ha2
          subst ha2
          gi_wp2
          go_roundw
          case rel => exact HNEW.out _ _ rfl rfl
          case measure => have := HLT.out; simp [intOf]; omega
      · gi_wp2
        refine bodyPost_ret (results_none rfl _ _ _) rfl ?_
        exact ⟨⟨_, rfl⟩, .inr ⟨_, ⟨cuts (r.drop Y) (ws.drop (k + 1)), by rw [strs_snoc, List.append_assoc]; exact HC2.out⟩, hJx3⟩⟩
    · obtain rfl : k = m := by omega
      have e1 : ws.drop k = [] := List.drop_of_length_le (by rw [← HM.out]; omega)
      have hJe : strs pre = cuts l ws := by have := HCUT.out; rw [e1, cuts, List.append_nil] at this; exact this.symm
      have HJE := Lib.hid hJe
      clear e1 hJe
      gi_wp2
      go_end0
      exact ⟨⟨_, rfl⟩, .inl ⟨pre, HJE.out, hJ⟩⟩
theorem parts_stops (F : Fence) (n : Nat) (hf : F.fn 51) (hro : F.round = none) (hn : 1 ≤ n) (BA BB n₀ : Nat) (l : List Nat) (ws : List Int) (A A' : Option Addr) (ml c m c' : Nat) (hml : ml = l.length) (hm : m = ws.length) (hcl : l.length ≤ c) (hcc : c ≤ 9223372036854775807) (hw : ∀ x ∈ ws, 0 ≤ x ∧ x ≤ 18) (hsum : (l.length : Int) = ws.sum) (h20 : m ≤ 20) (w : World) (hn₀ : n₀ ≤ w.heap.size) (hBA : BA < w.heap.size) (hBB : BB < w.heap.size)
    (hA : w.cell? ⟨BA, 0, none⟩ = some (.slice A ml c)) (hB : w.cell? ⟨BB, 0, none⟩ = some (.slice A' m c')) (hZ : Zs w n₀ ws A' c') :
    SeqStopsK F n Try.prog 51 #[.pointer (some ⟨BA, 0, none⟩), .pointer (some ⟨BB, 0, none⟩)] (encP (A := A) (l := l)) (Below n₀) (fun ys => strs ys = cuts l ws) (fun pre => ∃ t, cuts l ws = strs pre ++ t) m w := fun lp J Jx W hW _ _ hY h0 =>
  parts1_in F n hf hro hn lp BA BB n₀ l ws A A' ml c m c' hml hm hcl hcc hw hsum h20 J Jx hY W ((hW.cell (p := ⟨BA, 0, none⟩) hBA).trans hA) ((hW.cell (p := ⟨BB, 0, none⟩) hBB).trans hB) (hZ.belowB (hW.mono hn₀)) h0
set_option linter.unusedVariables false
open Go.ChangeShapes Go.WideShapes Go.ChangeAt Go.RowKit

set_option maxRecDepth 100000 in
set_option maxHeartbeats 1600000 in
theorem ptotal_any (ws : List Int) (n : Nat) (hn : n = ws.length) (S E : Int) (h : totX ws = (S, E)) (A : Option Addr) (c : Nat) (w : World) (hA : Zs w w.heap.size ws A c) :
    Calls Try.prog 37 #[.slice A n c] w fun e w' => e = .returned (.tuple #[.int .i64 S, .int .i64 E]) ∧ w = w' := by
  have h63 : n ≤ 9223372036854775807 := by have := hA.len; have := hA.cap; omega
  have HN := Lib.hid hn
  have HA := Lib.hid hA
  have HE := Lib.hid h
  clear hn hA h
  by_cases h1 : 20 < n
  · have h2 : totX ws = (0, 1) := by rw [totX, if_pos (by rw [← HN.out]; exact h1)]
    obtain ⟨rfl, rfl⟩ : S = 0 ∧ E = 1 := by have := HE.out; rw [h2] at this; exact ⟨(Prod.mk.inj this).1.symm, (Prod.mk.inj this).2.symm⟩
    clear HE h2
    go_enter Try.func37, Try.ntmps37
    go_wp2
    go_ret2
    exact ⟨rfl, rfl⟩
  have h20 : n ≤ 20 := by omega
  have HR := Lib.hid (show totR ws 0 = (S, E) by rw [← HE.out, totX, if_neg (by rw [← HN.out]; exact h1)])
  clear h1 HE
  go_enter Try.func37, Try.ntmps37
  go_wp2
  go_loop [4, 12] (fun t i => ∃ (k : Nat) (s : Int), k ≤ n ∧ i = .int .i64 k ∧ t = .int .i64 s ∧ 0 ≤ s ∧ s ≤ 18 * (k : Int) ∧ totR (ws.drop k) s = (S, E)) (fun _ i => n - (intOf i).toNat)
  case atStart => exact ⟨0, 0, Nat.zero_le _, rfl, rfl, by omega, by omega, HR.out⟩
  case round =>
    obtain ⟨k, s, hk, rfl, rfl, hs0, hs1, hr⟩ := hrel
    have HRR := Lib.hid hr
    clear hr
    by_cases hlt : k < n
    · have hkw : k < ws.length := by rw [← HN.out]; exact hlt
      obtain ⟨y, hy⟩ : ∃ y, ws[k]? = some y := ⟨_, List.getElem?_eq_getElem hkw⟩
      have hdw : ws.drop k = y :: ws.drop (k + 1) := by rw [drop_at hkw]; congr 1; rw [List.getElem?_eq_getElem hkw] at hy; exact Option.some.inj hy
      obtain ⟨ad', rfl, hb', hc'⟩ := HA.out.at hy
      have hj := HRR.out
      rw [hdw, totR] at hj
      have b1 : (0 : Int) ≤ (k : Int) := by omega
      have b2 : (k : Int) < (n : Int) := by omega
      clear hkw hy hdw HRR
      by_cases h0 : 0 ≤ y ∧ y ≤ 18
      · rw [if_pos h0] at hj
        have HJ := Lib.hid hj
        have hd := decide_eq_true h0
        have w1 : IntKind.i64.wrap (s + y) = s + y := IntWalk.i64_in _ (by omega)
        have HD := Lib.hid hd
        clear hj hd
        go_wp2_with (go_at_call 49; refine (pwidth_any y true HD.out _).mono ?_; rintro e w1 ⟨rfl, rfl⟩)
        go_round
        case rel => exact ⟨k + 1, s + y, by omega, by go_num, by go_num, by omega, by omega, HJ.out⟩
        case measure => simp [intOf]; omega
      · rw [if_neg h0] at hj
        obtain ⟨rfl, rfl⟩ : S = 0 ∧ E = 1 := ⟨(Prod.mk.inj hj).1.symm, (Prod.mk.inj hj).2.symm⟩
        have HD := Lib.hid (decide_eq_false h0)
        clear hj h0
        go_wp2_with (go_at_call 49; refine (pwidth_any y false HD.out _).mono ?_; rintro e w1 ⟨rfl, rfl⟩)
        go_ret2
        exact ⟨rfl, rfl⟩
    · have e1 : k = n := by omega
      subst e1
      have hj := HRR.out
      rw [List.drop_of_length_le (by rw [← HN.out]; omega), totR] at hj
      obtain ⟨rfl, rfl⟩ : S = s ∧ E = 0 := ⟨(Prod.mk.inj hj).1.symm, (Prod.mk.inj hj).2.symm⟩
      clear HRR hj
      go_wp2
      go_ret2
      exact ⟨rfl, rfl⟩
set_option linter.unusedVariables false
open Go.ChangeShapes Go.WideShapes Go.ChangeAt Go.RowKit Go.Shelf
attribute [local go_sem] Oper.semAt_some

def nums {A : Option Addr} {l : List Nat} (pre : List (Pt A l)) : List Int := pre.map (fun x => (((getX x.1.2).2 : Nat) : Int))
def good {A : Option Addr} {l : List Nat} (pre : List (Pt A l)) : Prop := ∀ x ∈ pre, (getX x.1.2).1 = 0
theorem nums_snoc {A : Option Addr} {l : List Nat} (pre : List (Pt A l)) (x : Pt A l) : nums (pre ++ [x]) = nums pre ++ [(((getX x.1.2).2 : Nat) : Int)] := by simp [nums]
theorem gets_good {A : Option Addr} {l : List Nat} : ∀ (pre : List (Pt A l)) (t : List (List Nat)) (o : List Int), good pre → getsR (strs pre ++ t) o = getsR t (o ++ nums pre)
  | [], t, o, _ => by simp [strs, nums]
  | x :: pre, t, o, h => by
    have h1 := h x (by simp)
    rw [strs, List.map_cons, List.cons_append, getsR, if_pos h1]
    have := gets_good pre t (o ++ [(((getX x.1.2).2 : Nat) : Int)]) (fun y hy => h y (by simp [hy]))
    rw [strs] at this
    rw [this]; simp [nums]
theorem part_len {A : Option Addr} {l : List Nat} {a : Option Addr} {s : List Nat} (h : IsPart A l a s) : s.length ≤ l.length := by
  by_cases hs : s = []
  · subst hs; simp
  · obtain ⟨o, _, t, ht⟩ := h hs
    have := congrArg List.length ht
    rw [List.length_append, List.length_drop] at this
    omega
theorem int_one (x : Int) : ∀ u ∈ ([.int .i64 x] : List Value), u.oneCell' = true := by
  intro u hu
  simp at hu
  subst hu
  rfl
theorem keeps_call {B : Nat} {W W' : World} (hb : Below W.heap.size W W') : KeepsFrom B W W' := ⟨hb.size, fun k o _ hk _ => (hb.block k (Array.getElem?_eq_some_iff.1 hk).1).trans hk⟩
set_option maxRecDepth 100000 in
set_option maxHeartbeats 1600000 in
theorem psplit_bad (l : List Nat) (ws : List Int) (ml m : Nat) (hml : ml = l.length) (hm : m = ws.length) (S E : Int) (hT : totX ws = (S, E)) (hE : E ≠ 0) (A A' : Option Addr) (c c' : Nat) (w : World) (hA : Bs w w.heap.size l A c) (hA' : Zs w w.heap.size ws A' c') :
    Calls Try.prog 27 #[.slice A ml c, .slice A' m c'] w fun e w' => e = .returned (.tuple #[.slice none 0 0, .int .i64 E]) ∧ Below w.heap.size w w' := by
  have HM := Lib.hid hm
  have HT := Lib.hid hT
  have HA' := Lib.hid hA'
  have hne : (E != 0) = true := by rw [bne_iff_ne]; exact hE
  obtain ⟨W2, hW2⟩ : ∃ W2, (w.alloc (.cells #[.slice none 0 0] 32)).alloc (.cells #[.int .i64 0] 29) = W2 := ⟨_, rfl⟩
  have hb2 : Below w.heap.size w W2 := by rw [← hW2]; exact ((Below.refl _ w).alloc (Nat.le_refl _) _).alloc (by simp) _
  have b4 : Boxed W2 w.heap.size 32 (.slice none 0 0) := by rw [← hW2]; exact (Boxed.new w _ _).alloc _
  have b5 : Boxed W2 (w.heap.size + 1) 29 (.int .i64 0) := by rw [← hW2]; have := Boxed.new (w.alloc (.cells #[.slice none 0 0] 32)) 29 (.int .i64 0); rwa [World.size_alloc] at this
  have HB2 := Lib.hid hb2
  have HW2 := Lib.hid hW2
  have c4 := b4.cell
  have c5 := b5.cell
  have f4 := b4.frozen
  have f5 := b5.frozen
  have B4 := Lib.hid b4
  have B5 := Lib.hid b5
  clear hm hT hA' hb2 hW2 b4 b5
  go_enter Try.func27, Try.ntmps27
  go_wp2_with fail
  rw [HW2.out]
  refine (ptotal_any ws m HM.out S E HT.out A' c' W2 (HA'.out.next HB2.out)).mono ?_
  rintro e w1 ⟨rfl, rfl⟩
  have d5 := (B5.out.other (B' := w.heap.size) (by omega) (.slice none 0 0)).cell
  have d5f := (B5.out.other (B' := w.heap.size) (by omega) (.slice none 0 0)).frozen
  go_wp2
  have b4' := (B4.out.set (.slice none 0 0)).other (B' := w.heap.size + 1) (by omega) (.int .i64 E)
  have b5' := (B5.out.other (B' := w.heap.size) (by omega) (.slice none 0 0)).set (.int .i64 E)
  have e4 := b4'.cell
  have e5 := b5'.cell
  refine bodyPost_ret (v := .tuple #[.slice none 0 0, .int .i64 E]) (by simp [results, Try.results27, go_sem, e4, e5]) rfl ?_
  exact ⟨rfl, (HB2.out.setCell (p := ⟨w.heap.size, 0, none⟩) (Nat.le_refl _) _).setCell (p := ⟨w.heap.size + 1, 0, none⟩) (by simp) _⟩
set_option maxRecDepth 100000 in
set_option maxHeartbeats 1600000 in
theorem psplit_len (l : List Nat) (ws : List Int) (ml m : Nat) (hml : ml = l.length) (hm : m = ws.length) (S : Int) (hT : totX ws = (S, 0)) (hE : (ml : Int) ≠ S) (A A' : Option Addr) (c c' : Nat) (w : World) (hA : Bs w w.heap.size l A c) (hA' : Zs w w.heap.size ws A' c') :
    Calls Try.prog 27 #[.slice A ml c, .slice A' m c'] w fun e w' => e = .returned (.tuple #[.slice none 0 0, .int .i64 14]) ∧ Below w.heap.size w w' := by
  have HM := Lib.hid hm
  have HT := Lib.hid hT
  have HA' := Lib.hid hA'
  have hne : ((ml : Int) != S) = true := by rw [bne_iff_ne]; exact hE
  have h63 : ml ≤ 9223372036854775807 := by have := hA.len; have := hA.cap; omega
  obtain ⟨W2, hW2⟩ : ∃ W2, (w.alloc (.cells #[.slice none 0 0] 32)).alloc (.cells #[.int .i64 0] 29) = W2 := ⟨_, rfl⟩
  have hb2 : Below w.heap.size w W2 := by rw [← hW2]; exact ((Below.refl _ w).alloc (Nat.le_refl _) _).alloc (by simp) _
  have b4 : Boxed W2 w.heap.size 32 (.slice none 0 0) := by rw [← hW2]; exact (Boxed.new w _ _).alloc _
  have b5 : Boxed W2 (w.heap.size + 1) 29 (.int .i64 0) := by rw [← hW2]; have := Boxed.new (w.alloc (.cells #[.slice none 0 0] 32)) 29 (.int .i64 0); rwa [World.size_alloc] at this
  have HB2 := Lib.hid hb2
  have HW2 := Lib.hid hW2
  have c4 := b4.cell
  have c5 := b5.cell
  have f4 := b4.frozen
  have f5 := b5.frozen
  have B4 := Lib.hid b4
  have B5 := Lib.hid b5
  clear hm hml hA hT hA' hb2 hW2 b4 b5
  go_enter Try.func27, Try.ntmps27
  go_wp2_with fail
  rw [HW2.out]
  refine (ptotal_any ws m HM.out S 0 HT.out A' c' W2 (HA'.out.next HB2.out)).mono ?_
  rintro e w1 ⟨rfl, rfl⟩
  have d5 := (B5.out.other (B' := w.heap.size) (by omega) (.slice none 0 0)).cell
  have d5f := (B5.out.other (B' := w.heap.size) (by omega) (.slice none 0 0)).frozen
  go_wp2
  have b4' := (B4.out.set (.slice none 0 0)).other (B' := w.heap.size + 1) (by omega) (.int .i64 14)
  have b5' := (B5.out.other (B' := w.heap.size) (by omega) (.slice none 0 0)).set (.int .i64 14)
  have e4 := b4'.cell
  have e5 := b5'.cell
  refine bodyPost_ret (v := .tuple #[.slice none 0 0, .int .i64 14]) (by simp [results, Try.results27, go_sem, e4, e5]) rfl ?_
  exact ⟨rfl, (HB2.out.setCell (p := ⟨w.heap.size, 0, none⟩) (Nat.le_refl _) _).setCell (p := ⟨w.heap.size + 1, 0, none⟩) (by simp) _⟩
set_option maxRecDepth 100000 in
set_option maxHeartbeats 1600000 in
theorem split_in (n : Nat) (hn : 4 ≤ n) (l : List Nat) (ws : List Int) (ml m : Nat) (hml : ml = l.length) (hm : m = ws.length) (S : Int) (hT : totX ws = (S, 0)) (hS : (l.length : Int) = S) (E : Int) (p : List Int) (hR : getsR (cuts l ws) [] = (E, p)) (A A' : Option Addr) (c c' : Nat) (w : World) (hA : Bs w w.heap.size l A c) (hA' : Zs w w.heap.size ws A' c') :
    CallsIn Fence.wide n Try.prog 27 #[.slice A ml c, .slice A' m c'] w fun e w' => ∃ A2 c2, e = .returned (.tuple #[.slice A2 (p.length : Nat) c2, .int .i64 E]) ∧ Zs w' w'.heap.size p A2 c2 ∧ Below w.heap.size w w' := by
  have h1 : 1 ≤ n := by omega
  obtain ⟨i0, hi, hz0, hz1, hz2⟩ := info_parts infoInt
  obtain ⟨hws20, hw18, hsum⟩ := totX_ok (ws := ws) (by rw [hT])
  have hsum2 : (l.length : Int) = ws.sum := by rw [hS, ← hsum, hT]
  have hlen := sum_nat ws hw18
  have hm20 : m ≤ 20 := by omega
  have h63 : ml ≤ 360 := by omega
  have hmlS : ((ml : Int) != S) = false := by rw [bne_eq_false_iff_eq, hml]; exact hS
  have HML := Lib.hid hml
  have HM := Lib.hid hm
  have HT := Lib.hid hT
  have HR := Lib.hid hR
  have HA := Lib.hid hA
  have HA' := Lib.hid hA'
  have HW18 := Lib.hid hw18
  have HSUM := Lib.hid hsum2
  clear hml hm hT hR hA hA' hS hws20 hw18 hsum hsum2 hlen
  obtain ⟨W2, hW2⟩ : ∃ W2, (w.alloc (.cells #[.slice none 0 0] 32)).alloc (.cells #[.int .i64 0] 29) = W2 := ⟨_, rfl⟩
  have hb2 : Below w.heap.size w W2 := by rw [← hW2]; exact ((Below.refl _ w).alloc (Nat.le_refl _) _).alloc (by simp) _
  have b4 : Boxed W2 w.heap.size 32 (.slice none 0 0) := by rw [← hW2]; exact (Boxed.new w _ _).alloc _
  have b5 : Boxed W2 (w.heap.size + 1) 29 (.int .i64 0) := by rw [← hW2]; have := Boxed.new (w.alloc (.cells #[.slice none 0 0] 32)) 29 (.int .i64 0); rwa [World.size_alloc] at this
  have hs2 : W2.heap.size = w.heap.size + 1 + 1 := by rw [← hW2]; simp
  have HB2 := Lib.hid hb2
  have HW2 := Lib.hid hW2
  have B4 := Lib.hid b4
  have B5 := Lib.hid b5
  clear hb2 hW2 b4 b5
  refine callsIn_of_wp_marks Try.func27 rfl trivial ?_ rfl
  simp only [Try.ntmps27, List.size_toArray, List.length_cons, List.length_nil, Nat.reduceAdd, Nat.reduceSub, Array.replicate_succ, Array.replicate_zero, List.push_toArray, List.append_toArray, List.nil_append, List.cons_append]
  gi_wp2
  rw [HW2.out]
  refine ⟨trivial, (callsIn_wide.2 (ptotal_any ws m HM.out S 0 HT.out A' c' W2 (HA'.out.next HB2.out))).mono ?_⟩
  rintro e w1 ⟨rfl, rfl⟩
  gi_wp2_with (gi_at_make; refine wpListIn_make_own _ rfl _ _ 32 rfl w.heap.size 3 i0 (.int .i64 0) 1 Try.underlying32 hi hz0 hz1 _ _ _ m rfl rfl rfl ?b2 ?b3 ?b4 ?_)
  case b2 => rw [hz2]; omega
  case b3 => unfold maxLen; omega
  case b4 => omega
  intro w3 hown hg3
  have hg6 : w.heap.size + 1 + 1 < w3.heap.size := by
    obtain ⟨h0, hrow⟩ := hown
    rcases hrow with ⟨e, _⟩ | ⟨g, cap, cur, e, _, hgb, _⟩
    · cases e
    · cases e; exact (Array.getElem?_eq_some_iff.1 hgb).1
  have hb3 : Below w.heap.size w w3 := HB2.out.grown hg3 (by omega) (fun j hj => by cases hj)
  have b43 := B4.out.kept hg3 (fun e => by cases e)
  have b53 := B5.out.kept hg3 (fun e => by cases e)
  obtain ⟨X, hX⟩ : ∃ X, X = w3.heap.size := ⟨_, rfl⟩
  have hXg : w.heap.size + 1 + 1 < X := by omega
  obtain ⟨W4, hW4⟩ : ∃ W4, w3.alloc (.cells #[.slice (some ⟨w.heap.size + 1 + 1, 0, none⟩) 0 m] 32) = W4 := ⟨_, rfl⟩
  have hs4 : W4.heap.size = X + 1 := by rw [← hW4, hX]; simp
  have b74 : Boxed W4 X 32 (.slice (some ⟨w.heap.size + 1 + 1, 0, none⟩) 0 m) := by rw [← hW4, hX]; exact Boxed.new w3 _ _
  have b44 : Boxed W4 w.heap.size 32 (.slice none 0 0) := by rw [← hW4]; exact b43.alloc _
  have b54 : Boxed W4 (w.heap.size + 1) 29 (.int .i64 0) := by rw [← hW4]; exact b53.alloc _
  have hb4 : Below w.heap.size w W4 := by rw [← hW4]; exact hb3.alloc (by omega) _
  have hr4 : W4.ownsRow w.heap.size 3 1 (.slice (some ⟨w.heap.size + 1 + 1, 0, none⟩) 0 m) 0 [] := by rw [← hW4]; exact hown.alloc _
  have HW4 := Lib.hid hW4
  have HB43 := Lib.hid b44
  have HB53 := Lib.hid b54
  have HB73 := Lib.hid b74
  have HB4 := Lib.hid hb4
  have HR4 := Lib.hid hr4
  clear hown hg3 hb3 b43 b53 b44 b54 b74 hb4 hr4 hW4
  gi_wp2
  rw [HW4.out, ← hX]
  clear hX
  refine ⟨trivial, (parts_in Fence.wide (n - 1) trivial rfl _ _ _ _ _ _ _).mono ?_⟩
  rintro e w' ⟨rfl, rfl⟩
  obtain ⟨W0, hW0⟩ : ∃ W0, (W4.alloc (.cells #[.slice A ml c] 28)).alloc (.cells #[.slice A' m c'] 32) = W0 := ⟨_, rfl⟩
  have hs0 : W0.heap.size = X + 1 + 1 + 1 := by rw [← hW0]; simp [hs4]
  have b40 : Boxed W0 w.heap.size 32 (.slice none 0 0) := by rw [← hW0]; exact (HB43.out.alloc _).alloc _
  have b50 : Boxed W0 (w.heap.size + 1) 29 (.int .i64 0) := by rw [← hW0]; exact (HB53.out.alloc _).alloc _
  have b70 : Boxed W0 X 32 (.slice (some ⟨w.heap.size + 1 + 1, 0, none⟩) 0 m) := by rw [← hW0]; exact (HB73.out.alloc _).alloc _
  have b80 : Boxed W0 (X + 1) 28 (.slice A ml c) := by rw [← hW0, ← hs4]; exact (Boxed.new W4 _ _).alloc _
  have b90 : Boxed W0 (X + 1 + 1) 32 (.slice A' m c') := by rw [← hW0]; have := Boxed.new (W4.alloc (.cells #[.slice A ml c] 28)) 32 (.slice A' m c'); rwa [World.size_alloc, hs4] at this
  have hb0 : Below w.heap.size w W0 := by rw [← hW0]; exact (HB4.out.alloc (by omega) _).alloc (by simp; omega) _
  have hr0 : W0.ownsRow w.heap.size 3 1 (.slice (some ⟨w.heap.size + 1 + 1, 0, none⟩) 0 m) 0 [] := by rw [← hW0]; exact (HR4.out.alloc _).alloc _
  gi_wp2
  clear hW0
  have hK1 : 1 ≤ n - 1 := by omega
  refine wpIn_rangeFunc_ownG rfl h1 (gf := 51) (lb := #[.pointer (some ⟨X + 1, 0, none⟩), .pointer (some ⟨X + 1 + 1, 0, none⟩)]) rfl trivial (enters_of Try.func51 (by kernel_rfl) rfl)
    (parts_stops Fence.wide (n - 1) trivial rfl hK1 (X + 1) (X + 1 + 1) w.heap.size l ws A A' ml c m c' HML.out HM.out HA.out.len HA.out.cap HW18.out HSUM.out hm20 W0 (by omega) (by omega) (by omega) b80.cell b90.cell (HA'.out.belowB hb0)) belowK_t (belowK_b (by omega)) (Below.refl _ _) (fun _ => rfl)
    (fun pre W => ((∃ v, Boxed W X 32 v ∧ W.ownsRow w.heap.size 3 1 v (nums pre).length (I64 (nums pre)) ∧ True) ∧ (good pre ∧ Boxed W w.heap.size 32 (.slice none 0 0) ∧ Boxed W (w.heap.size + 1) 29 (.int .i64 0) ∧ X + 1 + 1 + 1 ≤ W.heap.size)) ∧ Below w.heap.size w W)
    (fun cc pre W => (cc = .ret ∧ ∃ (ini : List (Pt A l)) (z : Pt A l), pre = ini ++ [z] ∧ good ini ∧ (getX z.1.2).1 ≠ 0 ∧ Boxed W w.heap.size 32 (.slice none 0 0) ∧ Boxed W (w.heap.size + 1) 29 (.int .i64 (getX z.1.2).1)) ∧ Below w.heap.size w W)
    (OwnFrom.and (OwnFrom.and (Own.from (holdsRow_own w.heap.size X 32 3 1 (fun pre => (nums pre).length) (fun pre => I64 (nums pre)) (fun _ _ => True)) _) (Own.from (fun s P Q row hs hg hr => ⟨hs.1, hs.2.1.kept hg (fun e => by obtain ⟨o, h1, h2⟩ := hr _ e.symm; rw [show P.heap[w.heap.size]? = _ from hs.2.1] at h1; cases h1; cases h2), hs.2.2.1.kept hg (fun e => by obtain ⟨o, h1, h2⟩ := hr _ e.symm; rw [show P.heap[w.heap.size + 1]? = _ from hs.2.2.1] at h1; cases h1; cases h2), Nat.le_trans hs.2.2.2 hg.size⟩) _)) (ownFrom_below (Nat.le_refl _) (by omega)))
    (fun cc => OwnFrom.and (Own.from (fun s P Q row hs hg hr => by
      obtain ⟨hc, ini, z, e1, e2, e3, e4, e5⟩ := hs
      exact ⟨hc, ini, z, e1, e2, e3, e4.kept hg (fun e => by obtain ⟨o, h1, h2⟩ := hr _ e.symm; rw [show P.heap[w.heap.size]? = _ from e4] at h1; cases h1; cases h2), e5.kept hg (fun e => by obtain ⟨o, h1, h2⟩ := hr _ e.symm; rw [show P.heap[w.heap.size + 1]? = _ from e5] at h1; cases h1; cases h2)⟩) _) (ownFrom_below (Nat.le_refl _) (by omega)))
    ⟨⟨⟨_, b70, hr0, trivial⟩, (fun y hy => by cases hy), b40, b50, by omega⟩, hb0⟩
    (fun x => { tmps := #[.slice A ml c, .slice A' m c', undef, undef, .pointer (some ⟨w.heap.size, 0, none⟩), .pointer (some ⟨w.heap.size + 1, 0, none⟩), .int .i64 S, .int .i64 0, .pointer (some ⟨X, 0, none⟩), .slice x.1.1 x.1.2.length x.1.2.length, undef, undef, .tuple #[.int .i64 S, .int .i64 0], .slice A' m c', .tuple #[.int .i64 S, .int .i64 0], .int .i64 S, .int .i64 0, .int .i64 0, .bool false, undef, .slice A ml c, .int .i64 (ml : Int), .int .i64 S, .bool false, .slice A' m c', .int .i64 (m : Int), .slice (some ⟨w.heap.size + 1 + 1, 0, none⟩) 0 m, .slice A ml c, .slice A' m c', .func (.func 51) #[] #[.pointer (some ⟨X + 1, 0, none⟩), .pointer (some ⟨X + 1 + 1, 0, none⟩)], .slice x.1.1 x.1.2.length x.1.2.length, undef, undef, undef, undef, undef, undef, undef, undef, undef, undef, undef, undef, undef], defers := [] }) ?assign ?body ?done ?stop
  case assign =>
    intro lp x W K hK
    dsimp only [encP]
    gi_wp2
    exact hK
  case body =>
    rintro lp pre x W ⟨⟨⟨v, h7, hrow, -⟩, hgood, h4, h5, hX3⟩, hB⟩ hlt
    have hbs : Bs W W.heap.size x.1.2 x.1.1 x.1.2.length := (part_bs (HA.out.below hB) x.2 (by have := part_len x.2; have := HML.out; omega)).more hB.size
    obtain ⟨eg, zg, hg⟩ : ∃ eg zg, getX x.1.2 = (eg, zg) := ⟨_, _, rfl⟩
    have hnum : nums (pre ++ [x]) = nums pre ++ [((zg : Nat) : Int)] := by rw [nums_snoc, hg]
    have hpl : (nums pre).length < m := by rw [nums, List.length_map]; exact hlt
    obtain ⟨k, hk⟩ : ∃ k, k = x.1.2.length := ⟨_, rfl⟩
    have hget := pget_any x.1.2 k hk eg zg hg x.1.1 k W (by rw [hk]; exact hbs)
    have hgx : (getX x.1.2).1 = eg := by rw [hg]
    have hgd : eg = 0 → good (pre ++ [x]) := fun e0 y hy => (List.mem_append.1 hy).elim (hgood y) (fun e => by simp only [List.mem_singleton] at e; subst e; rw [hgx, e0])
    rw [← hk]
    obtain ⟨ap, hap⟩ : ∃ ap, ap = x.1.1 := ⟨_, rfl⟩
    rw [← hap] at hget ⊢
    have hc7 := h7.cell
    have hc4 := h4.cell
    have hc5 := h5.cell
    have hf4 := h4.frozen
    have hf5 := h5.frozen
    have H7 := Lib.hid h7
    have HRW := Lib.hid hrow
    have H4 := Lib.hid h4
    have H5 := Lib.hid h5
    have HGX := Lib.hid hgx
    have HGD := Lib.hid hgd
    have HGO := Lib.hid hgood
    have HNUM := Lib.hid hnum
    have HBB := Lib.hid hB
    have HGET := Lib.hid hget
    have HPL := Lib.hid hpl
    clear h7 hrow h4 h5 hgx hgd hgood hnum hB hget hbs hg hk hap hpl b80 b90 b70 b40 b50
    have hn2 : 1 ≤ n - 1 - 1 := by omega
    by_cases e0 : eg = 0
    · subst e0
      obtain ⟨j, hj⟩ : ∃ j, j = (nums pre).length := ⟨_, rfl⟩
      have hjm : j < m := by rw [hj]; exact HPL.out
      have HJ := Lib.hid hj
      rw [← hj] at HRW
      have hm1 : j + 1 ≤ maxLen := by unfold maxLen; omega
      have hm2 : (j + 1) * 8 ≤ 140737488355328 := by omega
      have hsz := HBB.out.size
      clear hj
      gi_wp2_with (first | (refine ⟨trivial, ?_⟩; gi_at_call 36; refine (CallsIn.inRound lp (callsIn_wide.2 HGET.out)).mono ?_; rintro e w' ⟨rfl, rfl⟩) | (gi_at_builtin; refine wpListIn_append_own_at _ rfl _ _ 32 rfl w.heap.size 3 i0 (.int .i64 0) 1 8 Try.underlying32 hi hz0 hz1 hz2 rfl (by decide) v _ _ rfl (HRW.out.alloc _) ⟨W.heap.size, 0, none⟩ 1 1 [.int .i64 (zg : Int)] rfl rfl (cell_one_new _ _ _) (int_one _) hm1 hm2 (by simp; omega) ?_; intro v' w1' hown' hgrow _ hat; obtain ⟨g', cap', rfl⟩ := ownsRow_succ hown'; obtain ⟨hv1, hv2, hr2, hk2, hb2⟩ := H7.out.appended (by decide) HRW.out hsz (by omega) hown' hgrow; have hc1 := hv1.cell; have hf1 := hv1.frozen))
      refine ⟨hk2.from _, hb2, ⟨⟨_, hv2, ?_, trivial⟩, HGD.out (by first | trivial | rfl), ((H4.out.alloc _).kept hgrow (H4.out.not_row (by decide) HRW.out)).other (by omega) _, ((H5.out.alloc _).kept hgrow (H5.out.not_row (by decide) HRW.out)).other (by omega) _, Nat.le_trans hX3 hk2.size⟩, HBB.out.trans hb2⟩
      rw [HNUM.out, I64_append, List.length_append, ← HJ.out]
      exact hr2
    · have hne : (eg != 0) = true := by rw [bne_iff_ne]; exact e0
      have g5 := (H5.out.other (B' := w.heap.size) (by omega) (.slice none 0 0)).cell
      have g5f := (H5.out.other (B' := w.heap.size) (by omega) (.slice none 0 0)).frozen
      gi_wp2_with (refine ⟨trivial, ?_⟩; gi_at_call 36; refine (CallsIn.inRound lp (callsIn_wide.2 HGET.out)).mono ?_; rintro e w' ⟨rfl, rfl⟩)
      have q4 := (H4.out.set (.slice none 0 0)).other (B' := w.heap.size + 1) (by omega) (.int .i64 eg)
      have q5 := (H5.out.other (B' := w.heap.size) (by omega) (.slice none 0 0)).set (.int .i64 eg)
      exact ⟨((KeepsOthers.setCell _ _ _).trans (KeepsOthers.setCell _ _ _)).from _, ⟨rfl, pre, x, rfl, HGO.out, by rw [HGX.out]; exact e0, q4, by rw [HGX.out]; exact q5⟩, (HBB.out.setCell (p := ⟨w.heap.size, 0, none⟩) (Nat.le_refl _) _).setCell (p := ⟨w.heap.size + 1, 0, none⟩) (by simp) _⟩
  case done =>
    rintro D ys W hD hys ⟨⟨⟨v, h7, hrow, -⟩, hgood, h4, h5, hX3⟩, hB⟩ hK
    have hval : getsR (cuts l ws) [] = (0, nums ys) := by rw [← hys, ← List.append_nil (strs ys), gets_good ys [] [] hgood]; rfl
    obtain ⟨rfl, rfl⟩ : E = 0 ∧ p = nums ys := by have := HR.out; rw [hval] at this; exact ⟨(Prod.mk.inj this).1.symm, (Prod.mk.inj this).2.symm⟩
    obtain ⟨A2, c2, rfl, -, -⟩ := zs_of_own hrow
    obtain ⟨k, hk⟩ : ∃ k, k = (nums ys).length := ⟨_, rfl⟩
    rw [← hk] at h7 hrow
    have HKL := Lib.hid hk
    clear hk
    have hc7 := h7.cell
    have hc4 := h4.cell
    have hf4 := h4.frozen
    have g5 := (h5.other (B' := w.heap.size) (by omega) (.slice A2 k c2)).cell
    have g5f := (h5.other (B' := w.heap.size) (by omega) (.slice A2 k c2)).frozen
    have q4 := (h4.set (.slice A2 k c2)).other (B' := w.heap.size + 1) (by omega) (.int .i64 0)
    have q5 := (h5.other (B' := w.heap.size) (by omega) (.slice A2 k c2)).set (.int .i64 0)
    have hrow1 := hrow.kept (grownBy_setCell' W w.heap.size (.slice A2 k c2)) (.inr (h4.not_row (by decide) hrow).symm)
    have hrow2 := hrow1.kept (grownBy_setCell' _ (w.heap.size + 1) (.int .i64 0)) (.inr ((h5.other (B' := w.heap.size) (by omega) (.slice A2 k c2)).not_row (by decide) hrow1).symm)
    have hB2 := (hB.setCell (p := ⟨w.heap.size, 0, none⟩) (Nat.le_refl _) (.slice A2 k c2)).setCell (p := ⟨w.heap.size + 1, 0, none⟩) (by simp) (.int .i64 0)
    have hK' : ((W.setCell ⟨w.heap.size, 0, none⟩ (.slice A2 k c2)).setCell ⟨w.heap.size + 1, 0, none⟩ (.int .i64 0)).heap[D]? = some (.deferred (some [])) := ((KeepsOthers.setCell W ⟨w.heap.size, 0, none⟩ (.slice A2 k c2)).trans (KeepsOthers.setCell _ ⟨w.heap.size + 1, 0, none⟩ (.int .i64 0))).same D _ hK rfl
    have HQ4 := Lib.hid q4
    have HQ5 := Lib.hid q5
    have HRW := Lib.hid hrow2
    have HB2 := Lib.hid hB2
    have HK' := Lib.hid hK'
    clear q4 q5 hrow hrow1 hrow2 hB hB2 hK' hK h7 h4 h5 hval hys hgood b80 b90 b70 b40 b50
    gi_wp2
    refine ⟨by simp, .inl ⟨_, _, rfl, run_takeDeferred HK'.out, ?_⟩⟩
    have e4 := cell_kept HQ4.out.cell (grownBy_putObj' _ D (.deferred none)) (fun r e => by cases e; exact ⟨_, HK'.out, rfl⟩)
    have e5 := cell_kept HQ5.out.cell (grownBy_putObj' _ D (.deferred none)) (fun r e => by cases e; exact ⟨_, HK'.out, rfl⟩)
    refine ⟨.tuple #[.slice A2 k c2, .int .i64 0], ?_, A2, c2, by rw [HKL.out], zs_own (ownsRow_putObj HRW.out (.deferred none) HK'.out rfl), HB2.out.trans (belowK_b (w := w) (Nat.le_refl _) _ D _ _ (by omega) HK'.out rfl rfl)⟩
    simp [results, Try.results27, go_sem, e4, e5]
  case stop =>
    rintro D cc pre W hD ⟨t, ht⟩ ⟨⟨rfl, ini, z, e1, e2, e3, h4, h5⟩, hB⟩ hK
    have hval : getsR (cuts l ws) [] = ((getX z.1.2).1, []) := by rw [ht, e1, strs_snoc, List.append_assoc, gets_good ini _ [] e2, List.singleton_append, getsR, if_neg e3]
    obtain ⟨he, rfl⟩ : E = (getX z.1.2).1 ∧ p = [] := by have := HR.out; rw [hval] at this; exact ⟨(Prod.mk.inj this).1.symm, (Prod.mk.inj this).2.symm⟩
    rw [← he] at h5
    have q4 := cell_kept h4.cell (grownBy_putObj' _ D (.deferred none)) (fun r e => by cases e; exact ⟨_, hK, rfl⟩)
    have q5 := cell_kept h5.cell (grownBy_putObj' _ D (.deferred none)) (fun r e => by cases e; exact ⟨_, hK, rfl⟩)
    have HQ4 := Lib.hid q4
    have HQ5 := Lib.hid q5
    have HK := Lib.hid hK
    clear hval he e3 ht q4 q5 hK b80 b90 b70 b40 b50
    gi_wp2
    refine ⟨by simp, .inl ⟨_, _, rfl, run_takeDeferred HK.out, ?_⟩⟩
    have q4 := HQ4.out
    have q5 := HQ5.out
    refine ⟨.tuple #[.slice none 0 0, .int .i64 E], ?_, none, 0, rfl, zs_nil _, hB.trans (belowK_b (w := w) (Nat.le_refl _) W D _ _ (by omega) HK.out rfl rfl)⟩
    simp [results, Try.results27, go_sem, q4, q5]
theorem psplit_any (l : List Nat) (ws : List Int) (ml m : Nat) (hml : ml = l.length) (hm : m = ws.length) (E : Int) (p : List Int) (hR : splitX l ws = (E, p)) (A A' : Option Addr) (c c' : Nat) (w : World) (hA : Bs w w.heap.size l A c) (hA' : Zs w w.heap.size ws A' c') :
    Calls Try.prog 27 #[.slice A ml c, .slice A' m c'] w fun e w' => ∃ A2 c2, e = .returned (.tuple #[.slice A2 (p.length : Nat) c2, .int .i64 E]) ∧ Zs w' w'.heap.size p A2 c2 ∧ Below w.heap.size w w' := by
  obtain ⟨S, e, hT⟩ : ∃ S e, totX ws = (S, e) := ⟨_, _, rfl⟩
  rw [splitX, hT] at hR
  by_cases he : e ≠ 0
  · rw [if_pos he] at hR
    obtain ⟨rfl, rfl⟩ := Prod.mk.inj hR
    refine (psplit_bad l ws ml m hml hm S e hT he A A' c c' w hA hA').mono ?_
    rintro x w1 ⟨rfl, hb⟩
    exact ⟨none, 0, rfl, zs_nil _, hb⟩
  rw [if_neg he] at hR
  obtain rfl : e = 0 := by omega
  by_cases hS : (l.length : Int) ≠ S
  · rw [if_pos hS] at hR
    obtain ⟨rfl, rfl⟩ := Prod.mk.inj hR
    refine (psplit_len l ws ml m hml hm S hT (by rw [hml]; exact hS) A A' c c' w hA hA').mono ?_
    rintro x w1 ⟨rfl, hb⟩
    exact ⟨none, 0, rfl, zs_nil _, hb⟩
  rw [if_neg hS] at hR
  exact (callsIn_wide (n := 4)).1 (split_in 4 (Nat.le_refl _) l ws ml m hml hm S hT (by omega) E p hR A A' c c' w hA hA')
end Go.Proofs.Ytpeccmcojocgkaa
