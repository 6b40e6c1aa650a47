/-
  Contract for the comparison of bytes, told apart: two lists are told equal just if they are. Conditions: the lists' lengths fit an int.
-/
import Derived.Test.YtaldpioahnbkgaaSame
namespace Go.Proofs.Ytaldpioahnbkgaa
set_option linter.unusedVariables false
open Go.ChangeShapes Go.WideShapes Go.ChangeAt Go.RowKit

theorem first_diff : ∀ (a b : List Nat), a.length = b.length → a ≠ b → ∃ k, k < a.length ∧ a.take k = b.take k ∧ a.getD k 0 ≠ b.getD k 0
  | [], [], _, h => absurd rfl h
  | [], _ :: _, h, _ => by simp at h
  | _ :: _, [], h, _ => by simp at h
  | x :: a, y :: b, hl, h => by
    by_cases e : x = y
    · subst e
      obtain ⟨k, h1, h2, h3⟩ := first_diff a b (by simpa using hl) (fun e => h (by rw [e]))
      exact ⟨k + 1, by simp; omega, by simp [h2], by simpa using h3⟩
    · exact ⟨0, by simp, by simp, by simpa using e⟩

set_option maxRecDepth 20000 in
theorem same_short (n n' : Nat) (hne : n ≠ n') (A A' : Option Addr) (c c' : Nat) (w : World) (h1 : n ≤ 9223372036854775807) (h2 : n' ≤ 9223372036854775807) :
    Calls Try.prog 31 #[.slice A n c, .slice A' n' c'] w fun e w' => e = .returned (.bool false) ∧ Below w.heap.size w w' := by
  have e1 : ((n : Int) != (n' : Int)) = true := by simp; omega
  have e2 : ((n : Int) == (n' : Int)) = false := by simp; omega
  have e3 : (n != n') = true := by simpa using hne
  go_enter Try.func31, Try.ntmps31
  go_wp2
  go_ret
  exact ⟨rfl, Below.refl _ _⟩

set_option maxRecDepth 20000 in
theorem same_other (l l' : List Nat) (n k : Nat) (hn : n = l.length) (hn' : n = l'.length) (hk : k < n) (ht : l.take k = l'.take k) (hd : l.getD k 0 ≠ l'.getD k 0) (A A' : Option Addr) (c c' B : Nat) (w : World) (hA : Rd w B A (U8 l)) (hA' : Rd w B A' (U8 l')) (hl : n ≤ 9223372036854775807) :
    Calls Try.prog 31 #[.slice A n c, .slice A' n c'] w fun e w' => e = .returned (.bool false) ∧ Below w.heap.size w w' := by
  have HN := Lib.hid hn
  have HN' := Lib.hid hn'
  have HT := Lib.hid ht
  have HD := Lib.hid hd
  clear hn hn' ht hd
  go_enter Try.func31, Try.ntmps31
  go_wp2
  go_loopw [5] (fun i wr => ∃ j d : Nat, j ≤ k ∧ i = .int .i64 j ∧ wr = w.drewN d) (fun i _ => n - (intOf i).toNat)
  case atStart => exact ⟨0, 0, Nat.zero_le _, rfl, rfl⟩
  case round =>
    obtain ⟨j, d, hj, rfl, rfl⟩ := hrel
    have hjn : j < n := by omega
    obtain ⟨ad, rfl, _, hc⟩ := hA j _ (U8_at l j (by rw [← HN.out]; exact hjn))
    obtain ⟨ad', rfl, _, hc'⟩ := hA' j _ (U8_at l' j (by rw [← HN'.out]; exact hjn))
    clear hA hA'
    have b1 : (0 : Int) ≤ (j : Int) := by omega
    have b2 : (j : Int) < (n : Int) := by omega
    by_cases hlt : j < k
    · have he : l[j]'(by rw [← HN.out]; exact hjn) = l'[j]'(by rw [← HN'.out]; exact hjn) := by
        have h1 : (l.take k)[j]? = (l'.take k)[j]? := by rw [HT.out]
        rw [List.getElem?_take, List.getElem?_take, if_pos hlt, if_pos hlt, List.getElem?_eq_getElem (by rw [← HN.out]; exact hjn), List.getElem?_eq_getElem (by rw [← HN'.out]; exact hjn)] at h1
        exact Option.some.inj h1
      rw [he] at hc
      clear he
      generalize l'[j]'(by rw [← HN'.out]; exact hjn) = x at hc hc'
      go_wp2
      go_quiet (fail)
      go_wp2
      go_roundw
      case rel => exact ⟨j + 1, _, by omega, by go_num, rfl⟩
      case measure => simp [intOf]; omega
    · have ej : j = k := by omega
      subst ej
      have hne : l[j]'(by rw [← HN.out]; exact hjn) ≠ l'[j]'(by rw [← HN'.out]; exact hjn) := by
        have h1 := HD.out
        rwa [List.getD_eq_getElem?_getD, List.getD_eq_getElem?_getD, List.getElem?_eq_getElem (by rw [← HN.out]; exact hjn), List.getElem?_eq_getElem (by rw [← HN'.out]; exact hjn)] at h1
      generalize l[j]'(by rw [← HN.out]; exact hjn) = x at hc hne
      generalize l'[j]'(by rw [← HN'.out]; exact hjn) = y at hc' hne
      have e1 : ((x : Int) != (y : Int)) = true := by simp; omega
      have e2 : ((x : Int) == (y : Int)) = false := by simp; omega
      clear hne
      go_wp2
      go_quiet (fail)
      go_wp2
      go_ret
      exact ⟨rfl, below_drewN (below_drewN (Below.refl _ _) _) _⟩

/-- Told equal just if they are. -/
theorem same_any (l l' : List Nat) (n n' : Nat) (hn : n = l.length) (hn' : n' = l'.length) (A A' : Option Addr) (c c' B : Nat) (w : World) (hA : Rd w B A (U8 l)) (hA' : Rd w B A' (U8 l')) (hl : n ≤ 9223372036854775807) (hl' : n' ≤ 9223372036854775807) :
    Calls Try.prog 31 #[.slice A n c, .slice A' n' c'] w fun e w' => e = .returned (.bool (l == l')) ∧ Below w.heap.size w w' := by
  by_cases e : l = l'
  · subst e
    subst hn
    subst hn'
    have := same_eq l A A' c c' B w hA hA' (by unfold maxLen; exact hl)
    simpa using this
  · have eb : (l == l') = false := by simpa using e
    rw [eb]
    by_cases h : n = n'
    · subst h
      obtain ⟨k, h1, h2, h3⟩ := first_diff l l' (by omega) e
      exact same_other l l' n k hn hn' (by omega) h2 h3 A A' c c' B w hA hA' hl
    · exact same_short n n' h A A' c c' w hl hl'
end Go.Proofs.Ytaldpioahnbkgaa
