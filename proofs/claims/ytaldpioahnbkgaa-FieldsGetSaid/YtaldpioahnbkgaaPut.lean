/-
  Contract for bits.Put: just these bytes, or the document's errors. Conditions: the numbers fit.
-/
import Derived.Test.YtaldpioahnbkgaaBase
namespace Go.Proofs.Ytaldpioahnbkgaa
set_option maxRecDepth 100000
set_option linter.unusedVariables false
open Go.ChangeShapes Go.WideShapes Go.ChangeAt Go.RowKit

theorem cast_byte64 (x e : Nat) : (x : Int) / 2 ^ e % 256 = ((x / 2 ^ e % 256 : Nat) : Int) := by simp

theorem put_arg (n size : Int) (w : World) (h : size < 0 ∨ 8 < size ∨ n < 0) :
    Calls Try.prog 46 #[.int .i64 n, .int .i64 size] w fun e w' => e = .returned (.tuple #[.slice none 0 0, .int .i64 1]) ∧ w = w' := by
  by_cases h1 : size < 0
  · go_enter Try.func46, Try.ntmps46
    go_wp2
    go_ret2
    exact ⟨rfl, rfl⟩
  · by_cases h2 : 8 < size
    · clear h
      have h1' : 0 ≤ size := by omega
      go_enter Try.func46, Try.ntmps46
      go_wp2
      go_ret2
      exact ⟨rfl, rfl⟩
    · have h3 : n < 0 := by omega
      have h1' : 0 ≤ size := by omega
      have h2' : size ≤ 8 := by omega
      clear h h1 h2
      go_enter Try.func46, Try.ntmps46
      go_wp2
      go_ret2
      exact ⟨rfl, rfl⟩

theorem pow_bytes (k : Nat) : 256 ^ k = 2 ^ (8 * k) := by rw [Nat.pow_mul]
theorem over_yes (n size : Nat) (h : 256 ^ size ≤ n) : ((n : Int) / 2 ^ (8 * size) != 0) = true := by
  have e : (n : Int) / 2 ^ (8 * size) = ((n / 2 ^ (8 * size) : Nat) : Int) := by simp
  rw [e, bne_iff_ne]
  rw [pow_bytes] at h
  have := Nat.div_pos h (Nat.two_pow_pos _)
  omega
theorem over_no (n size : Nat) (h : n < 256 ^ size) : ((n : Int) / 2 ^ (8 * size) != 0) = false := by
  have e : (n : Int) / 2 ^ (8 * size) = ((n / 2 ^ (8 * size) : Nat) : Int) := by simp
  rw [e, bne_eq_false_iff_eq]
  rw [pow_bytes] at h
  rw [Nat.div_eq_of_lt h]; rfl

theorem put_over (n size : Nat) (w : World) (hn : n < 9223372036854775808) (hs : size ≤ 8) (h : 256 ^ size ≤ n) :
    Calls Try.prog 46 #[.int .i64 n, .int .i64 size] w fun e w' => e = .returned (.tuple #[.slice none 0 0, .int .i64 23]) ∧ w = w' := by
  have hov := over_yes n size h
  clear h
  go_enter Try.func46, Try.ntmps46
  go_wp2
  go_ret2
  exact ⟨rfl, rfl⟩

theorem put_ok (n size : Nat) (w : World) (hn : n < 9223372036854775808) (hs : size ≤ 8) (h : n < 256 ^ size) :
    Calls Try.prog 46 #[.int .i64 n, .int .i64 size] w fun e w' => ∃ g cap, e = .returned (.tuple #[.slice (some ⟨g, 0, none⟩) size cap, .int .i64 0]) ∧
      w'.ownsRow w.heap.size 5 1 (.slice (some ⟨g, 0, none⟩) size cap) size (U8 (putB n size)) ∧ Below w.heap.size w w' := by
  obtain ⟨i0, hi, hz0, hz1, hz2⟩ := info_parts infoU8
  have hov := over_no n size h
  clear h
  go_enter Try.func46, Try.ntmps46
  go_wp2_with (at_make; refine wpList_make_full _ rfl _ _ 52 rfl w.heap.size 5 i0 (.int .u8 0) 1 Try.underlying52 hi hz0 hz1 _ _ _ _ size rfl rfl (by omega) (by omega) ?b2 ?b3 (Nat.le_refl _) ?_)
  case b2 => rw [hz2]; omega
  case b3 => unfold maxLen; omega
  intro w1 hown hg
  have hown1 : w1.ownsRow w.heap.size 5 1 (.slice (some ⟨w.heap.size, 0, none⟩) size size) size (U8 (putUpto n size 0)) := by
    rw [toList_madeCells_one] at hown
    rw [putUpto_zero, U8, List.map_replicate]
    exact hown
  have hbel : Below w.heap.size w w1 := (Below.refl _ _).grown hg (Nat.le_refl _) (by simp)
  clear hown hg
  go_wp2
  go_loopw [28] (fun i wr => ∃ k : Nat, k ≤ size ∧ i = .int .i64 k ∧ wr.ownsRow w.heap.size 5 1 (.slice (some ⟨w.heap.size, 0, none⟩) size size) size (U8 (putUpto n size k)) ∧ Below w.heap.size w wr) (fun i _ => size - (intOf i).toNat)
  case atStart => exact ⟨0, Nat.zero_le _, rfl, hown1, hbel⟩
  case round =>
    clear hown1 hbel
    obtain ⟨k, hk, rfl, hown, hbel⟩ := hrel
    by_cases hlt : k < size
    · have hc2 : ∃ v, wr.cell? ⟨w.heap.size, k, none⟩ = some v := by
        rw [hown.cellAt k (by omega), U8, List.getElem?_map]
        rw [List.getElem?_eq_getElem (by simp [putUpto]; omega)]
        exact ⟨_, rfl⟩
      obtain ⟨v2, hc2⟩ := hc2
      have hf := hown.frozenAt k
      have hst := (hown.stored k (.int .u8 ((n / 256 ^ (size - 1 - k) % 256 : Nat) : Int))).1
      have hset : (U8 (putUpto n size k)).set k (.int .u8 ((n / 256 ^ (size - 1 - k) % 256 : Nat) : Int)) = U8 (putUpto n size (k + 1)) := by
        rw [← putUpto_set n size k, U8, U8, List.map_set]
      rw [hset, pow_bytes] at hst
      clear hset
      have HST := Lib.hid hst
      have HOW := Lib.hid hown
      clear hst hown
      go_wp2
      go_roundw
      case rel =>
        refine ⟨k + 1, by omega, by go_num, ?_, hbel.setCell (Nat.le_refl _) _⟩
        rw [cast_byte64]
        exact HST.out
      case measure => simp [intOf]; omega
    · have e : putUpto n size k = putB n size := by
        have e1 : k = size := by omega
        rw [e1, putUpto_all]
      rw [e] at hown
      clear e
      go_wp2
      go_ret2
      exact ⟨_, _, rfl, hown, hbel⟩
end Go.Proofs.Ytaldpioahnbkgaa
