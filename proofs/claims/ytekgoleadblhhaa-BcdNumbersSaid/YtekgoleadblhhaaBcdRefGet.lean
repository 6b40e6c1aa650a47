/-
  Contract for the reference's Get. Conditions: the slice reads as bytes.
-/
import Derived.Test.YtekgoleadblhhaaMem
import Derived.Test.YtekgoleadblhhaaBsRow
import Derived.Test.YtekgoleadblhhaaBcdMath
namespace Go.Proofs.Ytekgoleadblhhaa
set_option linter.unusedVariables false
open Go.ChangeShapes Go.WideShapes Go.ChangeAt Go.RowKit

set_option maxRecDepth 100000 in
set_option maxHeartbeats 1600000 in
theorem rget_any (l : List Nat) (n : Nat) (hn : n = l.length) (E : Int) (N : Nat) (hE : getX l = (E, N)) (A : Option Addr) (c : Nat) (w : World) (hA : Bs w w.heap.size l A c) :
    Calls Try.prog 11 #[.slice A n c] w fun e w' => e = .returned (.tuple #[.int .i64 (N : Nat), .int .i64 E]) ∧ w = w' := by
  have h63 : n ≤ 9223372036854775807 := by have := hA.len; have := hA.cap; omega
  have HN := Lib.hid hn
  have HA := Lib.hid hA
  have HE := Lib.hid hE
  clear hn hA hE
  by_cases h18 : 18 < n
  · have h1 : getX l = (1, 0) := by rw [getX, if_pos (by rw [← HN.out]; exact h18)]
    obtain ⟨rfl, rfl⟩ : E = 1 ∧ N = 0 := by have := HE.out; rw [h1] at this; exact ⟨(Prod.mk.inj this).1.symm, (Prod.mk.inj this).2.symm⟩
    clear HE h1
    go_enter Try.func11, Try.ntmps11
    go_wp2
    go_ret2
    exact ⟨rfl, rfl⟩
  have h18' : n ≤ 18 := by omega
  have HR := Lib.hid (show getR l 0 = (E, N) by rw [← HE.out, getX, if_neg (by rw [← HN.out]; exact h18)])
  clear h18 HE h63
  go_enter Try.func11, Try.ntmps11
  go_wp2
  go_loop [4, 5] (fun t i => ∃ (k a : Nat), k ≤ n ∧ i = .int .i64 k ∧ t = .int .i64 (a : Nat) ∧ a < 10 ^ k ∧ getR (l.drop k) a = (E, N)) (fun _ i => n - (intOf i).toNat)
  case atStart => exact ⟨0, 0, Nat.zero_le _, rfl, rfl, by decide, HR.out⟩
  case round =>
    obtain ⟨k, a, hk, rfl, rfl, ha, hr⟩ := hrel
    by_cases hlt : k < n
    · have hkl : k < l.length := by rw [← HN.out]; exact hlt
      obtain ⟨ad, rfl, hb, hc⟩ := HA.out.rd k _ (U8_at l k hkl)
      rw [drop_at hkl] at hr
      generalize l[k] = x at *
      have h10 := pow18 (show k ≤ 18 by omega)
      have h11 : k + 1 ≤ 18 := by omega
      have HS := Lib.hid hr
      clear hr hkl
      by_cases hx : 9 < x
      · obtain ⟨rfl, rfl⟩ : E = 7 ∧ N = 0 := by have := HS.out; rw [getR, if_pos hx] at this; exact ⟨(Prod.mk.inj this).1.symm, (Prod.mk.inj this).2.symm⟩
        clear HS
        go_wp2
        go_ret2
        exact ⟨rfl, rfl⟩
      · have hx9 : x ≤ 9 := by omega
        have hr2 : getR (l.drop (k + 1)) (10 * a + x) = (E, N) := by have := HS.out; rwa [getR, if_neg hx] at this
        have ha2 : 10 * a + x < 10 ^ (k + 1) := by rw [Nat.pow_succ]; omega
        have hb2 := Nat.lt_of_lt_of_le ha2 (pow18 h11)
        have HR2 := Lib.hid hr2
        have HA2 := Lib.hid ha2
        have HAK := Lib.hid ha
        have w1 : IntKind.i64.wrap (10 * (a : Int)) = 10 * (a : Int) := IntWalk.i64_in _ (by omega)
        have w2 : IntKind.i64.wrap ((a : Int) * 10) = (a : Int) * 10 := IntWalk.i64_in _ (by omega)
        have w3 : IntKind.i64.wrap (10 * (a : Int) + (x : Int)) = 10 * (a : Int) + (x : Int) := IntWalk.i64_in _ (by omega)
        have w4 : IntKind.i64.wrap ((a : Int) * 10 + (x : Int)) = (a : Int) * 10 + (x : Int) := IntWalk.i64_in _ (by omega)
        clear HS hx hr2 ha2 ha h10
        go_wp2
        go_round
        case rel => exact ⟨k + 1, 10 * a + x, by omega, by go_num, by go_num, HA2.out, HR2.out⟩
        case measure => simp [intOf]; omega
    · have e : l.drop k = [] := List.drop_of_length_le (by rw [← HN.out]; omega)
      rw [e, getR] at hr
      obtain ⟨rfl, rfl⟩ : E = 0 ∧ N = a := ⟨(Prod.mk.inj hr).1.symm, (Prod.mk.inj hr).2.symm⟩
      have h10 := Nat.lt_of_lt_of_le ha (pow18 (show k ≤ 18 by omega))
      clear hr e ha
      go_wp2
      go_ret2
      exact ⟨rfl, rfl⟩
end Go.Proofs.Ytekgoleadblhhaa
