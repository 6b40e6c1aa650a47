/-
  Contract for the comparison of rows of ints: told equal just if they are. Conditions: the slices read as ints.
-/
import Derived.Test.YtpeccmcojocgkaaBcdVals
import Derived.BigQuiet
namespace Go.Proofs.Ytpeccmcojocgkaa
set_option linter.unusedVariables false
open Go.ChangeShapes Go.WideShapes Go.ChangeAt Go.RowKit

set_option maxRecDepth 100000 in
set_option maxHeartbeats 1600000 in
theorem samen_any (l l' : List Int) (n n' : Nat) (hn : n = l.length) (hn' : n' = l'.length) (t : Bool) (ht : (l == l') = t) (A A' : Option Addr) (c c' : Nat) (w : World) (hA : Zs w w.heap.size l A c) (hA' : Zs w w.heap.size l' A' c') :
    Calls Try.prog 14 #[.slice A n c, .slice A' n' c'] w fun e w' => e = .returned (.bool t) ∧ Below w.heap.size w w' := by
  have h63 : n ≤ 9223372036854775807 := by have := hA.len; have := hA.cap; omega
  have h63' : n' ≤ 9223372036854775807 := by have := hA'.len; have := hA'.cap; omega
  have HN := Lib.hid hn
  have HN' := Lib.hid hn'
  have HA := Lib.hid hA
  have HA' := Lib.hid hA'
  have HT := Lib.hid ht
  clear hn hn' hA hA' ht
  by_cases hne : n ≠ n'
  · obtain rfl : t = false := by rw [← HT.out, beq_eq_false_iff_ne]; intro e; apply hne; rw [HN.out, HN'.out, e]
    have b1 : ((n : Int) != (n' : Int)) = true := by simp; omega
    have b2 : (n != n') = true := by simpa using hne
    clear HT hne
    go_enter Try.func14, Try.ntmps14
    go_wp2
    go_ret
    exact ⟨rfl, Below.refl _ _⟩
  obtain rfl : n = n' := by omega
  clear hne
  go_enter Try.func14, Try.ntmps14
  go_wp2
  go_loopw [5] (fun i wr => ∃ k q : Nat, k ≤ n ∧ i = .int .i64 k ∧ wr = w.drewN q ∧ (l.drop k == l'.drop k) = t) (fun i _ => n - (intOf i).toNat)
  case atStart => exact ⟨0, 0, Nat.zero_le _, rfl, rfl, HT.out⟩
  case round =>
    obtain ⟨k, q, hk, rfl, rfl, hd⟩ := hrel
    by_cases hlt : k < n
    · have hkl : k < l.length := by rw [← HN.out]; exact hlt
      have hkl' : k < l'.length := by rw [← HN'.out]; exact hlt
      obtain ⟨x, hx⟩ : ∃ x, l[k]? = some x := ⟨_, List.getElem?_eq_getElem hkl⟩
      obtain ⟨y, hy⟩ : ∃ y, l'[k]? = some y := ⟨_, List.getElem?_eq_getElem hkl'⟩
      have hdv : l.drop k = x :: l.drop (k + 1) := by rw [drop_at hkl]; congr 1; rw [List.getElem?_eq_getElem hkl] at hx; exact Option.some.inj hx
      have hdw : l'.drop k = y :: l'.drop (k + 1) := by rw [drop_at hkl']; congr 1; rw [List.getElem?_eq_getElem hkl'] at hy; exact Option.some.inj hy
      obtain ⟨ad, rfl, _, hc⟩ := HA.out.at hx
      obtain ⟨ad', rfl, _, hc'⟩ := HA'.out.at hy
      have b1 : (0 : Int) ≤ (k : Int) := by omega
      have b2 : (k : Int) < (n : Int) := by omega
      rw [hdv, hdw] at hd
      have HD := Lib.hid hd
      clear hx hy hkl hkl' hdv hdw hd
      by_cases he : x = y
      · subst he
        have hd2 : (l.drop (k + 1) == l'.drop (k + 1)) = t := by have := HD.out; rw [List.cons_beq_cons, beq_self_eq_true, Bool.true_and] at this; exact this
        have HD2 := Lib.hid hd2
        clear HD hd2
        go_wp2
        go_quiet (fail)
        go_wp2
        go_roundw
        case rel => exact ⟨k + 1, _, by omega, by go_num, rfl, HD2.out⟩
        case measure => simp [intOf]; omega
      · have hb : (x == y) = false := by rw [beq_eq_false_iff_ne]; exact he
        have hb2 : (x != y) = true := by rw [bne_iff_ne]; exact he
        obtain rfl : t = false := by rw [← HD.out, List.cons_beq_cons, hb, Bool.false_and]
        clear HD HT he
        go_wp2
        go_quiet (fail)
        go_wp2
        go_ret
        exact ⟨rfl, below_drewN (below_drewN (Below.refl _ _) _) _⟩
    · have e1 : k = n := by omega
      subst e1
      rw [List.drop_of_length_le (by rw [← HN.out]; omega), List.drop_of_length_le (by rw [← HN'.out]; omega)] at hd
      obtain rfl : t = true := by rw [← hd]; rfl
      clear hd
      go_wp2
      go_ret
      exact ⟨rfl, below_drewN (Below.refl _ _) _⟩
end Go.Proofs.Ytpeccmcojocgkaa
