/-
  Contract for the landed total: how many digits all widths have, or that one is none. Conditions: the slice reads as ints.
-/
import Derived.Test.YtekgoleadblhhaaBcdPWidth
import Derived.Test.YtekgoleadblhhaaBcdVals
namespace Go.Proofs.Ytekgoleadblhhaa
set_option linter.unusedVariables false
open Go.ChangeShapes Go.WideShapes Go.ChangeAt Go.RowKit

set_option maxRecDepth 100000 in
set_option maxHeartbeats 1600000 in
theorem ptotal_any (ws : List Int) (n : Nat) (hn : n = ws.length) (S E : Int) (h : totX ws = (S, E)) (A : Option Addr) (c : Nat) (w : World) (hA : Zs w w.heap.size ws A c) :
    Calls Try.prog 20 #[.slice A n c] w fun e w' => e = .returned (.tuple #[.int .i64 S, .int .i64 E]) ∧ w = w' := by
  have h63 : n ≤ 9223372036854775807 := by have := hA.len; have := hA.cap; omega
  have HN := Lib.hid hn
  have HA := Lib.hid hA
  have HE := Lib.hid h
  clear hn hA h
  by_cases h1 : 20 < n
  · have h2 : totX ws = (0, 1) := by rw [totX, if_pos (by rw [← HN.out]; exact h1)]
    obtain ⟨rfl, rfl⟩ : S = 0 ∧ E = 1 := by have := HE.out; rw [h2] at this; exact ⟨(Prod.mk.inj this).1.symm, (Prod.mk.inj this).2.symm⟩
    clear HE h2
    go_enter Try.func20, Try.ntmps20
    go_wp2
    go_ret2
    exact ⟨rfl, rfl⟩
  have h20 : n ≤ 20 := by omega
  have HR := Lib.hid (show totR ws 0 = (S, E) by rw [← HE.out, totX, if_neg (by rw [← HN.out]; exact h1)])
  clear h1 HE
  go_enter Try.func20, Try.ntmps20
  go_wp2
  go_loop [4, 12] (fun t i => ∃ (k : Nat) (s : Int), k ≤ n ∧ i = .int .i64 k ∧ t = .int .i64 s ∧ 0 ≤ s ∧ s ≤ 18 * (k : Int) ∧ totR (ws.drop k) s = (S, E)) (fun _ i => n - (intOf i).toNat)
  case atStart => exact ⟨0, 0, Nat.zero_le _, rfl, rfl, by omega, by omega, HR.out⟩
  case round =>
    obtain ⟨k, s, hk, rfl, rfl, hs0, hs1, hr⟩ := hrel
    have HRR := Lib.hid hr
    clear hr
    by_cases hlt : k < n
    · have hkw : k < ws.length := by rw [← HN.out]; exact hlt
      obtain ⟨y, hy⟩ : ∃ y, ws[k]? = some y := ⟨_, List.getElem?_eq_getElem hkw⟩
      have hdw : ws.drop k = y :: ws.drop (k + 1) := by rw [drop_at hkw]; congr 1; rw [List.getElem?_eq_getElem hkw] at hy; exact Option.some.inj hy
      obtain ⟨ad', rfl, hb', hc'⟩ := HA.out.at hy
      have hj := HRR.out
      rw [hdw, totR] at hj
      have b1 : (0 : Int) ≤ (k : Int) := by omega
      have b2 : (k : Int) < (n : Int) := by omega
      clear hkw hy hdw HRR
      by_cases h0 : 0 ≤ y ∧ y ≤ 18
      · rw [if_pos h0] at hj
        have HJ := Lib.hid hj
        have hd := decide_eq_true h0
        have w1 : IntKind.i64.wrap (s + y) = s + y := IntWalk.i64_in _ (by omega)
        have HD := Lib.hid hd
        clear hj hd
        go_wp2_with (go_at_call 19; refine (pwidth_any y true HD.out _).mono ?_; rintro e w1 ⟨rfl, rfl⟩)
        go_round
        case rel => exact ⟨k + 1, s + y, by omega, by go_num, by go_num, by omega, by omega, HJ.out⟩
        case measure => simp [intOf]; omega
      · rw [if_neg h0] at hj
        obtain ⟨rfl, rfl⟩ : S = 0 ∧ E = 1 := ⟨(Prod.mk.inj hj).1.symm, (Prod.mk.inj hj).2.symm⟩
        have HD := Lib.hid (decide_eq_false h0)
        clear hj h0
        go_wp2_with (go_at_call 19; refine (pwidth_any y false HD.out _).mono ?_; rintro e w1 ⟨rfl, rfl⟩)
        go_ret2
        exact ⟨rfl, rfl⟩
    · have e1 : k = n := by omega
      subst e1
      have hj := HRR.out
      rw [List.drop_of_length_le (by rw [← HN.out]; omega), totR] at hj
      obtain ⟨rfl, rfl⟩ : S = s ∧ E = 0 := ⟨(Prod.mk.inj hj).1.symm, (Prod.mk.inj hj).2.symm⟩
      clear HRR hj
      go_wp2
      go_ret2
      exact ⟨rfl, rfl⟩
end Go.Proofs.Ytekgoleadblhhaa
