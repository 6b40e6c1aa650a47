/-
  Contracts for bits.Get: it answers the number that the bytes are, or the same error. Conditions: the slice reads as bytes.
-/
import Derived.Test.YtaldpioahnbkgaaBase
import Derived.Test.YtaldpioahnbkgaaRefGet
namespace Go.Proofs.Ytaldpioahnbkgaa
set_option linter.unusedVariables false
open Go.ChangeShapes Go.WideShapes Go.ChangeAt Go.RowKit

theorem get_arg (l : List Nat) (A : Option Addr) (c : Nat) (w : World) (hl : l.length ≤ maxLen) (h8 : 8 < l.length) :
    Calls Try.prog 49 #[.slice A l.length c] w fun e w' => e = .returned (.tuple #[.int .i64 0, .int .i64 1]) ∧ w = w' := by
  unfold maxLen at hl
  go_enter Try.func49, Try.ntmps49
  go_wp2
  go_ret2
  exact ⟨rfl, rfl⟩
theorem ret2_int {k : IntKind} {a b : Int} {v : Value} (h : a = b) : Ending.returned (.tuple #[.int k a, v]) = .returned (.tuple #[.int k b, v]) := by rw [h]
theorem get_over (l : List Nat) (A : Option Addr) (c B : Nat) (w : World) (hA : Rd w B A (U8 l)) (h8 : l.length = 8) (h0 : 128 ≤ l.getD 0 0) :
    Calls Try.prog 49 #[.slice A l.length c] w fun e w' => e = .returned (.tuple #[.int .i64 0, .int .i64 23]) ∧ w = w' := by
  obtain ⟨ad, rfl, _, hc⟩ := hA 0 _ (U8_at l 0 (by omega))
  have e0 : l.getD 0 0 = l[0] := by rw [List.getD_eq_getElem?_getD, List.getElem?_eq_getElem (by omega)]; rfl
  rw [e0] at h0
  rw [add_zero'] at hc
  generalize l[0] = x at hc h0
  rw [h8]
  have h0' : (128 : Int) ≤ (x : Int) := by omega
  clear e0 hA h8
  go_enter Try.func49, Try.ntmps49
  go_wp2
  go_ret2
  exact ⟨rfl, rfl⟩
set_option maxRecDepth 20000 in
theorem get_ok (l : List Nat) (A : Option Addr) (c B : Nat) (w : World) (hA : Rd w B A (U8 l)) (hb : ∀ x ∈ l, x < 256) (h8 : l.length ≤ 8) (h0 : l.length = 8 → l.getD 0 0 < 128) :
    Calls Try.prog 49 #[.slice A l.length c] w fun e w' => e = .returned (.tuple #[.int .i64 (valB l : Nat), .int .i64 0]) ∧ w = w' := by
  have h63 := valB_lt63 l hb h8 h0
  obtain ⟨n, hn⟩ : ∃ n, n = l.length := ⟨_, rfl⟩
  have hn8 : n ≤ 8 := by omega
  have HB := Lib.hid hb
  have hcase : n < 8 ∨ 8 ≤ n ∧ ∃ (ad : Addr) (x : Nat), A = some ad ∧ w.cell? ad = some (.int .u8 (x : Int)) ∧ (x : Int) < 128 := by
    by_cases e8 : n < 8
    · exact .inl e8
    · obtain ⟨ad, rfl, _, hc⟩ := hA 0 _ (U8_at l 0 (by omega))
      have e0 : l.getD 0 0 = l[0] := by rw [List.getD_eq_getElem?_getD, List.getElem?_eq_getElem (by omega)]; rfl
      have := h0 (by omega)
      rw [add_zero'] at hc
      exact .inr ⟨by omega, ad, _, rfl, hc, by omega⟩
  rw [← hn]
  have HN := Lib.hid hn
  have H63 := Lib.hid h63
  clear hn h0 hb h8 h63
  rcases hcase with h | ⟨h, ad0, x0, rfl, hc0, hx0⟩
  all_goals
    go_enter Try.func49, Try.ntmps49
    go_wp2
    go_loop [4, 20] (fun t i => ∃ k : Nat, k ≤ n ∧ i = .int .i64 k ∧ t = .int .u64 (valB (l.take k) : Nat)) (fun _ i => n - (intOf i).toNat)
    case atStart => exact ⟨0, Nat.zero_le _, rfl, rfl⟩
    case round =>
      obtain ⟨k, hk, rfl, rfl⟩ := hrel
      by_cases hlt : k < n
      · have hkl : k < l.length := by rw [← HN.out]; exact hlt
        obtain ⟨ad, hsome, _, hc⟩ := hA k _ (U8_at l k hkl)
        cases hsome
        have hv := valB_take_lt l HB.out k (by omega)
        have hs := valB_take l k hkl
        have hx := HB.out _ (List.getElem_mem hkl)
        generalize l[k] = x at *
        generalize valB (l.take k) = y at *
        have HS := Lib.hid hs
        clear hA hkl hs
        go_wp2
        go_round
        case rel => exact ⟨k + 1, by omega, by go_num, by rw [HS.out, ← or_byte64 y x hv hx]⟩
        case measure => simp [intOf]; omega
      · have e : l.take k = l := List.take_of_length_le (by rw [← HN.out]; omega)
        rw [e]
        clear e
        have h63 := H63.out
        go_wp2
        go_ret2
        exact ⟨rfl, rfl⟩
end Go.Proofs.Ytaldpioahnbkgaa
