/-
  Contract for the landed Put: the digits, or the document's error. Conditions: the number fits an int.
-/
import Derived.Test.YtekgoleadblhhaaBcdPWidth
namespace Go.Proofs.Ytekgoleadblhhaa
set_option linter.unusedVariables false
open Go.ChangeShapes Go.WideShapes Go.ChangeAt Go.RowKit

theorem pput_arg (n s : Int) (w : World) (h : n < 0 ∨ s < 0 ∨ 18 < s) : Calls Try.prog 8 #[.int .i64 n, .int .i64 s] w fun e w' => e = .returned (.tuple #[.slice none 0 0, .int .i64 1]) ∧ w = w' := by
  by_cases h1 : n < 0
  · clear h
    go_enter Try.func8, Try.ntmps8
    go_wp2
    go_ret2
    exact ⟨rfl, rfl⟩
  · have h2 : 0 ≤ n := by omega
    have hd := decide_eq_false (show ¬ (0 ≤ s ∧ s ≤ 18) by omega)
    clear h
    go_enter Try.func8, Try.ntmps8
    go_wp2_with (go_at_call 19; refine (pwidth_any s false hd _).mono ?_; rintro e w1 ⟨rfl, rfl⟩)
    go_ret2
    exact ⟨rfl, rfl⟩
set_option maxRecDepth 100000 in
set_option maxHeartbeats 1600000 in
theorem pput_fit (N s : Nat) (E : Int) (p : List Nat) (hE : putE N s = E) (hp : putL N s = p) (w : World) (hN : N < 9223372036854775808) (hs : s ≤ 18) :
    Calls Try.prog 8 #[.int .i64 N, .int .i64 s] w fun e w' => ∃ A c, e = .returned (.tuple #[.slice A (p.length : Nat) c, .int .i64 E]) ∧ Bs w' w'.heap.size p A c ∧ Below w.heap.size w w' := by
  obtain ⟨i0, hi, hz0, hz1, hz2⟩ := info_parts infoU8
  have HE := Lib.hid hE
  have HP := Lib.hid hp
  have hd := decide_eq_true (show (0 : Int) ≤ (s : Int) ∧ (s : Int) ≤ 18 by omega)
  have g1 : (0 : Int) ≤ (s : Int) := by omega
  clear hE hp
  go_enter Try.func8, Try.ntmps8
  go_wp2_with (first | (go_at_call 19; refine (pwidth_any (s : Int) true hd _).mono ?_; rintro e w1 ⟨rfl, rfl⟩) | (at_make; refine wpList_make_full _ rfl _ _ 22 rfl w.heap.size 5 i0 (.int .u8 0) 1 Try.underlying22 hi hz0 hz1 _ _ _ _ s rfl rfl (by omega) (by omega) ?b2 ?b3 (Nat.le_refl _) ?_))
  case b2 => rw [hz2]; omega
  case b3 => unfold maxLen; omega
  intro w1 hown hg
  have hown1 : w1.ownsRow w.heap.size 5 1 (.slice (some ⟨w.heap.size, 0, none⟩) s s) s (U8 (dgTo N s 0)) := by
    rw [toList_madeCells_one] at hown
    rw [dgTo_zero, U8, List.map_replicate]
    exact hown
  have hbel : Below w.heap.size w w1 := (Below.refl _ _).grown hg (Nat.le_refl _) (by simp)
  have s1 : IntKind.i64.wrap ((s : Int) - 1) = (s : Int) - 1 := IntWalk.i64_in _ (by omega)
  clear hown hg
  go_wp2
  go_loopw [0, 7] (fun m i wr => ∃ k : Nat, k ≤ s ∧ i = .int .i64 ((s : Int) - 1 - (k : Int)) ∧ m = .int .i64 (N / 10 ^ k : Nat) ∧ wr.ownsRow w.heap.size 5 1 (.slice (some ⟨w.heap.size, 0, none⟩) s s) s (U8 (dgTo N s k)) ∧ Below w.heap.size w wr) (fun _ i _ => (intOf i + 1).toNat)
  case atStart => exact ⟨0, Nat.zero_le _, by simp, by simp, hown1, hbel⟩
  case round =>
    clear hown1 hbel
    obtain ⟨k, hk, rfl, rfl, hown, hbel⟩ := hrel
    have hy : N / 10 ^ k < 9223372036854775808 := Nat.lt_of_le_of_lt (Nat.div_le_self _ _) hN
    by_cases hlt : k < s
    · have hc2 : ∃ v, wr.cell? ⟨w.heap.size, s - 1 - k, none⟩ = some v := by
        rw [hown.cellAt (s - 1 - k) (by omega), U8, List.getElem?_map]
        rw [List.getElem?_eq_getElem (by rw [dgTo_len _ _ _ hk]; omega)]
        exact ⟨_, rfl⟩
      obtain ⟨v2, hc2⟩ := hc2
      have hf := hown.frozenAt (s - 1 - k)
      have hst := (hown.stored (s - 1 - k) (.int .u8 ((N / 10 ^ k % 10 : Nat) : Int))).1
      have hset : (U8 (dgTo N s k)).set (s - 1 - k) (.int .u8 ((N / 10 ^ k % 10 : Nat) : Int)) = U8 (dgTo N s (k + 1)) := by
        rw [← dgTo_set N s k hlt, U8, U8, List.map_set]
      rw [hset] at hst
      have hnx : N / 10 ^ (k + 1) = N / 10 ^ k / 10 := by rw [Nat.pow_succ, Nat.div_div_eq_div_mul]
      have HNX := Lib.hid hnx
      clear hset hnx
      generalize N / 10 ^ k = y at *
      have HST := Lib.hid hst
      have HOW := Lib.hid hown
      have HC2 := hc2
      clear hst hown
      obtain ⟨j, hj⟩ : ∃ j : Nat, j = s - 1 - k := ⟨_, rfl⟩
      have hj2 : (s : Int) - 1 - (k : Int) = (j : Int) := by omega
      have hjs : (j : Int) < (s : Int) := by omega
      have hj3 : IntKind.i64.wrap ((j : Int) - 1) = (j : Int) - 1 := IntWalk.i64_in _ (by omega)
      rw [← hj] at HC2 hf HST hc2
      rw [hj2]
      have HJ := Lib.hid hj
      have HJ2 := Lib.hid hj2
      clear hj hj2 HC2
      go_wp2
      go_roundw
      case rel =>
        refine ⟨k + 1, by omega, ?_, ?_, ?_, hbel.setCell (Nat.le_refl _) _⟩
        · have := HJ2.out; exact congrArg (Value.int .i64) (by omega)
        · rw [HNX.out]; go_num
        · exact HST.out
      case measure => simp only [intOf]; omega
    · have e1 : k = s := by omega
      subst e1
      rw [dgTo_all] at hown
      have hneg : (k : Int) - 1 - (k : Int) = -1 := by omega
      rw [hneg]
      have HO := Lib.hid hown
      clear hown
      by_cases hov : 10 ^ k ≤ N
      · have hpos : 0 < N / 10 ^ k := Nat.div_pos hov (pow_pos10 k)
        obtain ⟨e1, e2⟩ := put_over hs hov
        obtain rfl : E = 23 := by rw [← HE.out, e1]
        obtain rfl : p = [] := by rw [← HP.out, e2]
        clear HE HP e1 e2 hov
        generalize N / 10 ^ k = y at *
        go_wp2
        go_ret2
        exact ⟨none, 0, rfl, ⟨by intro j u hu; simp [U8] at hu, fun _ => rfl, by simp, by omega, by simp⟩, hbel⟩
      · have hz : N / 10 ^ k = 0 := Nat.div_eq_of_lt (by omega)
        obtain ⟨e1, e2⟩ := put_ok hs (show N < 10 ^ k by omega)
        obtain rfl : E = 0 := by rw [← HE.out, e1]
        have hpl : p = dg N k := by rw [← HP.out, e2]
        have hl : p.length = k := by rw [hpl, dg_len]
        have HPL := Lib.hid hpl
        have HL := Lib.hid hl
        rw [hz]
        clear HE HP e1 e2 hov hpl hl hz
        go_wp2
        go_ret2
        refine ⟨some ⟨w.heap.size, 0, none⟩, k, by rw [HL.out]; rfl, ?_, hbel⟩
        rw [HPL.out]
        exact ⟨Rd.of_own HO.out, by simp, by rw [dg_len]; omega, by omega, fun x hx => by have := dg_lt N k x hx; omega⟩
theorem pput_any (n s : Int) (E : Int) (p : List Nat) (hE : putE n s = E) (hp : putL n s = p) (w : World) (hn : n ≤ 9223372036854775807) :
    Calls Try.prog 8 #[.int .i64 n, .int .i64 s] w fun e w' => ∃ A c, e = .returned (.tuple #[.slice A (p.length : Nat) c, .int .i64 E]) ∧ Bs w' w'.heap.size p A c ∧ Below w.heap.size w w' := by
  by_cases h : n < 0 ∨ s < 0 ∨ 18 < s
  · obtain ⟨e1, e2⟩ := put_arg h
    obtain rfl : E = 1 := by rw [← hE, e1]
    obtain rfl : p = [] := by rw [← hp, e2]
    refine (pput_arg n s w h).mono ?_
    rintro e w1 ⟨rfl, rfl⟩
    exact ⟨none, 0, rfl, ⟨by intro j u hu; simp [U8] at hu, fun _ => rfl, by simp, by omega, by simp⟩, Below.refl _ _⟩
  · obtain ⟨N, rfl⟩ : ∃ N : Nat, n = N := ⟨n.toNat, by omega⟩
    obtain ⟨S, rfl⟩ : ∃ S : Nat, s = S := ⟨s.toNat, by omega⟩
    exact pput_fit N S E p hE hp w (by omega) (by omega)
end Go.Proofs.Ytekgoleadblhhaa
