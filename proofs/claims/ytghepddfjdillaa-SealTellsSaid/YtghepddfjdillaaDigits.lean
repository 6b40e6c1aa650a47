/-
  Contracts for Digits of package seal and of the reference: just these ten digits, or the document's error. Conditions: the number fits an int.
-/
import Derived.Test.YtghepddfjdillaaMem
import Derived.Test.YtghepddfjdillaaSealMath
namespace Go.Proofs.Ytghepddfjdillaa
set_option linter.unusedVariables false
open Go.ChangeShapes Go.WideShapes Go.ChangeAt Go.RowKit

theorem digits_arg (n : Int) (w : World) (h : n < 0 ∨ 4294967295 < n) :
    Calls Try.prog 12 #[.int .i64 n] w fun e w' => e = .returned (.tuple #[.slice none 0 0, .int .i64 1]) ∧ w = w' := by
  by_cases h1 : n < 0
  · go_enter Try.func12, Try.ntmps12
    go_wp2
    go_ret2
    exact ⟨rfl, rfl⟩
  · have h2 : 4294967295 < n := by omega
    have h1' : 0 ≤ n := by omega
    clear h h1
    go_enter Try.func12, Try.ntmps12
    go_wp2
    go_ret2
    exact ⟨rfl, rfl⟩
theorem refdigits_arg (n : Int) (w : World) (h : n < 0 ∨ 4294967295 < n) :
    Calls Try.prog 13 #[.int .i64 n] w fun e w' => e = .returned (.tuple #[.slice none 0 0, .int .i64 1]) ∧ w = w' := by
  by_cases h1 : n < 0
  · go_enter Try.func13, Try.ntmps13
    go_wp2
    go_ret2
    exact ⟨rfl, rfl⟩
  · have h2 : 4294967295 < n := by omega
    have h1' : 0 ≤ n := by omega
    clear h h1
    go_enter Try.func13, Try.ntmps13
    go_wp2
    go_ret2
    exact ⟨rfl, rfl⟩

theorem digits_ok (n : Nat) (w : World) (hn : n ≤ 4294967295) :
    Calls Try.prog 12 #[.int .i64 n] w fun e w' => ∃ g cap, e = .returned (.tuple #[.slice (some ⟨g, 0, none⟩) 10 cap, .int .i64 0]) ∧
      Rd w' w'.heap.size (some ⟨g, 0, none⟩) (U8 (dec n)) ∧ Below w.heap.size w w' := by
  obtain ⟨i0, hi, hz0, hz1, hz2⟩ := info_parts infoU8
  go_enter Try.func12, Try.ntmps12
  go_wp2_with (at_make; refine wpList_make_full _ rfl _ _ 22 rfl w.heap.size 5 i0 (.int .u8 0) 1 Try.underlying22 hi hz0 hz1 _ _ _ _ 10 rfl rfl (by omega) (by omega) ?b2 ?b3 (Nat.le_refl _) ?_)
  case b2 => rw [hz2]; omega
  case b3 => unfold maxLen; omega
  intro w1 hown hg
  have hown1 : w1.ownsRow w.heap.size 5 1 (.slice (some ⟨w.heap.size, 0, none⟩) 10 10) 10 (U8 (decUpto n 0)) := by
    rw [toList_madeCells_one] at hown
    rw [decUpto_zero, U8, List.map_replicate]
    exact hown
  have hbel : Below w.heap.size w w1 := (Below.refl _ _).grown hg (Nat.le_refl _) (by simp)
  clear hown hg
  go_wp2
  go_loopw [0, 5, 13] (fun m _ i wr => ∃ k : Nat, k ≤ 10 ∧ i = .int .i64 k ∧ m = .int .i64 (n / 10 ^ k : Nat) ∧ wr.ownsRow w.heap.size 5 1 (.slice (some ⟨w.heap.size, 0, none⟩) 10 10) 10 (U8 (decUpto n k)) ∧ Below w.heap.size w wr) (fun _ _ i _ => 10 - (intOf i).toNat)
  case atStart => exact ⟨0, Nat.zero_le _, rfl, by simp, hown1, hbel⟩
  case round =>
    clear hown1 hbel
    obtain ⟨k, hk, rfl, rfl, hown, hbel⟩ := hrel
    by_cases hlt : k < 10
    · have hc2 : ∃ v, wr.cell? ⟨w.heap.size, 9 - k, none⟩ = some v := by
        rw [hown.cellAt (9 - k) (by omega), U8, List.getElem?_map]
        rw [List.getElem?_eq_getElem (by rw [length_decUpto]; omega)]
        exact ⟨_, rfl⟩
      obtain ⟨v2, hc2⟩ := hc2
      have hf := hown.frozenAt (9 - k)
      have hst := (hown.stored (9 - k) (.int .u8 ((n / 10 ^ k % 10 : Nat) : Int))).1
      have hset : (U8 (decUpto n k)).set (9 - k) (.int .u8 ((n / 10 ^ k % 10 : Nat) : Int)) = U8 (decUpto n (k + 1)) := by
        rw [← decUpto_set n k hlt, U8, U8, List.map_set]
      rw [hset] at hst
      have hnx : n / 10 ^ (k + 1) = n / 10 ^ k / 10 := by rw [Nat.pow_succ, Nat.div_div_eq_div_mul]
      have hy : n / 10 ^ k ≤ 4294967295 := Nat.le_trans (Nat.div_le_self _ _) hn
      have HNX := Lib.hid hnx
      clear hset hnx
      generalize n / 10 ^ k = y at *
      have HST := Lib.hid hst
      have HOW := Lib.hid hown
      clear hst hown
      have f1 : ((9 : Int) - (k : Int)).toNat = 9 - k := by omega
      have f2 : IntKind.i64.wrap ((9 : Int) - (k : Int)) = 9 - (k : Int) := IntWalk.i64_in _ (by omega)
      have f3 : (0 : Int) ≤ 9 - (k : Int) := by omega
      have f4 : 9 - (k : Int) < 10 := by omega
      go_wp2
      go_roundw
      case rel =>
        refine ⟨k + 1, by omega, by go_num, ?_, ?_, hbel.setCell (Nat.le_refl _) _⟩
        · rw [HNX.out]; go_num
        · exact HST.out
      case measure => simp [intOf]; omega
    · have e1 : k = 10 := by omega
      subst e1
      rw [decUpto_all] at hown
      go_wp2
      go_ret2
      exact ⟨_, _, rfl, Rd.of_own hown, hbel⟩
end Go.Proofs.Ytghepddfjdillaa
