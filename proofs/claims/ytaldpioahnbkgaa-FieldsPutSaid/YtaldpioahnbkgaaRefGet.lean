/-
  Contracts for the reference's Get: it answers the number that the bytes are, or the document's error. Conditions: the slice reads as bytes.
-/
import Derived.Test.YtaldpioahnbkgaaBase
namespace Go.Proofs.Ytaldpioahnbkgaa
set_option linter.unusedVariables false
open Go.ChangeShapes Go.WideShapes Go.ChangeAt Go.RowKit

theorem valB_take (l : List Nat) (k : Nat) (h : k < l.length) : valB (l.take (k + 1)) = valB (l.take k) * 256 + l[k] := by
  rw [List.take_succ_eq_append_getElem h, valB_snoc]
theorem valB_take_lt (l : List Nat) (hl : ∀ x ∈ l, x < 256) (k : Nat) (h : k < 8) : valB (l.take k) < 72057594037927936 := by
  have h1 := valB_lt (l.take k) (fun x hx => hl x (List.mem_of_mem_take hx))
  have h2 : 256 ^ (l.take k).length ≤ 256 ^ 7 := Nat.pow_le_pow_right (by omega) (by simp; omega)
  omega
theorem valB_lt63 (l : List Nat) (hl : ∀ x ∈ l, x < 256) (h8 : l.length ≤ 8) (h0 : l.length = 8 → l.getD 0 0 < 128) : valB l < 9223372036854775808 := by
  rcases l with _ | ⟨x, l⟩
  · simp [valB]
  · have h1 := valB_lt l (fun y hy => hl y (by simp [hy]))
    have h2 := hl x (by simp)
    rw [valB_cons]
    simp at h8 h0
    by_cases e : l.length = 7
    · have := h0 e
      rw [e] at h1 ⊢
      omega
    · have h3 : 256 ^ l.length ≤ 256 ^ 6 := Nat.pow_le_pow_right (by omega) (by omega)
      have h4 : x * 256 ^ l.length ≤ 255 * 256 ^ 6 := Nat.mul_le_mul (by omega) h3
      omega
theorem or_byte64 (a b : Nat) (ha : a < 72057594037927936) (hb : b < 256) : bits .or .u64 ((a : Int) * 256) (b : Int) = ((a * 256 + b : Nat) : Int) := by
  have e : (a : Int) * 256 = ((a * 256 : Nat) : Int) := by omega
  rw [e, u64_or_nat _ _ (by omega) (by omega)]
  have h := Nat.two_pow_add_eq_or_of_lt (i := 8) (b := b) (by omega) a
  simp only [Nat.reducePow] at h
  rw [Nat.mul_comm, ← h, Nat.mul_comm]

theorem valB_step_lt (l : List Nat) (hl : ∀ x ∈ l, x < 256) (k : Nat) (h : k < l.length) (h8 : l.length ≤ 8) (h63 : valB l < 9223372036854775808) : valB (l.take k) * 256 + l[k] ≤ 9223372036854775807 := by
  rw [← valB_take l k h]
  by_cases e : k + 1 < 8
  · have := valB_take_lt l hl (k + 1) e
    omega
  · rw [List.take_of_length_le (by omega)]; omega
theorem refget_arg (l : List Nat) (A : Option Addr) (c : Nat) (w : World) (hl : l.length ≤ maxLen) (h8 : 8 < l.length) :
    Calls Try.prog 42 #[.slice A l.length c] w fun e w' => e = .returned (.tuple #[.int .i64 0, .int .i64 1]) ∧ w = w' := by
  unfold maxLen at hl
  go_enter Try.func42, Try.ntmps42
  go_wp2
  go_ret2
  exact ⟨rfl, rfl⟩
theorem refget_over (l : List Nat) (A : Option Addr) (c B : Nat) (w : World) (hA : Rd w B A (U8 l)) (h8 : l.length = 8) (h0 : 128 ≤ l.getD 0 0) :
    Calls Try.prog 42 #[.slice A l.length c] w fun e w' => e = .returned (.tuple #[.int .i64 0, .int .i64 23]) ∧ w = w' := by
  obtain ⟨ad, rfl, _, hc⟩ := hA 0 _ (U8_at l 0 (by omega))
  have e0 : l.getD 0 0 = l[0] := by rw [List.getD_eq_getElem?_getD, List.getElem?_eq_getElem (by omega)]; rfl
  rw [e0] at h0
  rw [add_zero'] at hc
  generalize l[0] = x at hc h0
  rw [h8]
  have h0' : (128 : Int) ≤ (x : Int) := by omega
  clear e0 hA h8
  go_enter Try.func42, Try.ntmps42
  go_wp2
  go_ret2
  exact ⟨rfl, rfl⟩
set_option maxRecDepth 20000 in
theorem refget_ok (l : List Nat) (A : Option Addr) (c B : Nat) (w : World) (hA : Rd w B A (U8 l)) (hb : ∀ x ∈ l, x < 256) (h8 : l.length ≤ 8) (h0 : l.length = 8 → l.getD 0 0 < 128) :
    Calls Try.prog 42 #[.slice A l.length c] w fun e w' => e = .returned (.tuple #[.int .i64 (valB l : Nat), .int .i64 0]) ∧ w = w' := by
  have h63 := valB_lt63 l hb h8 h0
  obtain ⟨n, hn⟩ : ∃ n, n = l.length := ⟨_, rfl⟩
  have hn8 : n ≤ 8 := by omega
  have HB := Lib.hid hb
  have hcase : n < 8 ∨ 8 ≤ n ∧ ∃ (ad : Addr) (x : Nat), A = some ad ∧ w.cell? ad = some (.int .u8 (x : Int)) ∧ (x : Int) < 128 := by
    by_cases e8 : n < 8
    · exact .inl e8
    · obtain ⟨ad, rfl, _, hc⟩ := hA 0 _ (U8_at l 0 (by omega))
      have e0 : l.getD 0 0 = l[0] := by rw [List.getD_eq_getElem?_getD, List.getElem?_eq_getElem (by omega)]; rfl
      have := h0 (by omega)
      rw [add_zero'] at hc
      exact .inr ⟨by omega, ad, _, rfl, hc, by omega⟩
  rw [← hn]
  have HN := Lib.hid hn
  have H63 := Lib.hid h63
  clear hn h0 hb h8 h63
  rcases hcase with h | ⟨h, ad0, x0, rfl, hc0, hx0⟩
  all_goals
    go_enter Try.func42, Try.ntmps42
    go_wp2
    go_loop [4, 5] (fun t i => ∃ k : Nat, k ≤ n ∧ i = .int .i64 k ∧ t = .int .i64 (valB (l.take k) : Nat)) (fun _ i => n - (intOf i).toNat)
    case atStart => exact ⟨0, Nat.zero_le _, rfl, rfl⟩
    case round =>
      obtain ⟨k, hk, rfl, rfl⟩ := hrel
      by_cases hlt : k < n
      · have hkl : k < l.length := by rw [← HN.out]; exact hlt
        obtain ⟨ad, hsome, _, hc⟩ := hA k _ (U8_at l k hkl)
        cases hsome
        have hv := valB_take_lt l HB.out k (by omega)
        have hs := valB_take l k hkl
        have hv2 := valB_step_lt l HB.out k hkl (by rw [← HN.out]; exact hn8) H63.out
        have hx := HB.out _ (List.getElem_mem hkl)
        generalize l[k] = x at *
        generalize valB (l.take k) = y at *
        have HS := Lib.hid hs
        clear hA hkl hs
        go_wp2
        go_round
        case rel => exact ⟨k + 1, by omega, by go_num, by rw [HS.out]; go_num⟩
        case measure => simp [intOf]; omega
      · have e : l.take k = l := List.take_of_length_le (by rw [← HN.out]; omega)
        rw [e]
        clear e
        have h63 := H63.out
        go_wp2
        go_ret2
        exact ⟨rfl, rfl⟩
end Go.Proofs.Ytaldpioahnbkgaa
