/-
  Contract for the reference's Big: whether there is too much to be looked at. Conditions: the slice reads as keys.
-/
import Derived.Test.YtedkgkokfaadfaaRingMem
namespace Go.Proofs.Ytedkgkokfaadfaa
set_option linter.unusedVariables false
open Go.ChangeShapes Go.WideShapes Go.ChangeAt Go.RowKit

def bigR (l : List K) : Bool := decide (200 < l.length) || l.any fun k => decide (200 < k.sec.length)
theorem bigR_long (l : List K) (h : 200 < l.length) : bigR l = true := by simp [bigR, h]

set_option maxRecDepth 20000 in
theorem refbig_any (l : List K) (n : Nat) (hn : n = l.length) (A : Option Addr) (c B : Nat) (w : World) (hA : Ks w B A l) (h1 : n ≤ 9223372036854775807) :
    Calls Try.prog 8 #[.slice A n c] w fun e w' => e = .returned (.bool (bigR l)) ∧ Below w.heap.size w w' := by
  have HN := Lib.hid hn
  clear hn
  go_enter Try.func8, Try.ntmps8
  go_wp2
  go_loopw [3] (fun i wr => ∃ k d : Nat, k ≤ n ∧ i = .int .i64 k ∧ wr = w.drewN d ∧ (0 < k → n ≤ 200) ∧ ∀ j, j < k → (l.getD j K0).sec.length ≤ 200) (fun i _ => n - (intOf i).toNat)
  case atStart => exact ⟨0, 0, Nat.zero_le _, rfl, rfl, by omega, by omega⟩
  case round =>
    obtain ⟨k, d, hk, rfl, rfl, h200, hall⟩ := hrel
    by_cases hlt : k < n ∧ n ≤ 200
    · obtain ⟨hlt, hle⟩ := hlt
      obtain ⟨ad, S, cc, rfl, had, hk4⟩ := hA k (by rw [← HN.out]; exact hlt)
      have hc1 := hk4.c1
      have hcap := hk4.bs.len
      have hcap2 := hk4.bs.cap
      have b1 : (0 : Int) ≤ (k : Int) := by omega
      have b2 : (k : Int) < (n : Int) := by omega
      have b3 : (n : Int) ≤ 200 := by omega
      have HH := Lib.hid hall
      clear hall
      by_cases hb : 200 < (l.getD k K0).sec.length
      · have HB : bigR l = true := by
          simp only [bigR, Bool.or_eq_true, List.any_eq_true, decide_eq_true_eq]
          have hkl : k < l.length := by rw [← HN.out]; exact hlt
          refine .inr ⟨l.getD k K0, ?_, hb⟩
          rw [List.getD_eq_getElem?_getD, List.getElem?_eq_getElem hkl]
          exact List.getElem_mem hkl
        have HBR := Lib.hid HB
        have hk1 := hk4.c1
        clear HB hk4 hA hc1
        generalize l.getD k K0 = x at *
        have b4 : (200 : Int) < (x.sec.length : Int) := by omega
        go_wp2
        go_ret
        exact ⟨by rw [HBR.out]; rfl, below_drewN (Below.refl _ _) _⟩
      · have hstep : ∀ j, j < k + 1 → (l.getD j K0).sec.length ≤ 200 := by
          intro j hj
          rcases Nat.lt_or_ge j k with h | h
          · exact HH.out j h
          · have e : j = k := by omega
            subst e; omega
        have HST := Lib.hid hstep
        clear hstep hk4 hA
        generalize l.getD k K0 = x at *
        have b4 : ¬ ((200 : Int) < (x.sec.length : Int)) := by omega
        go_wp2
        go_roundw
        case rel => exact ⟨k + 1, d, by omega, by go_num, rfl, fun _ => hle, HST.out⟩
        case measure => simp [intOf]; omega
    · have HH := Lib.hid hall
      clear hall
      rcases (show k = n ∨ (k < n ∧ 200 < n) by omega) with e | ⟨e, e2⟩
      · subst e
        by_cases h0 : 200 < k
        · have HB := Lib.hid (bigR_long l (by rw [← HN.out]; exact h0))
          have b4 : (200 : Int) < (k : Int) := by omega
          clear hlt
          go_wp2
          go_ret
          exact ⟨by rw [HB.out]; rfl, below_drewN (Below.refl _ _) _⟩
        · have HB : bigR l = false := by
            simp only [bigR, Bool.or_eq_false_iff, decide_eq_false_iff_not, List.any_eq_false, decide_eq_true_eq]
            refine ⟨by rw [← HN.out]; exact h0, fun x hx => ?_⟩
            obtain ⟨j, hj, rfl⟩ := List.getElem_of_mem hx
            have := HH.out j (by rw [HN.out]; exact hj)
            rw [List.getD_eq_getElem?_getD, List.getElem?_eq_getElem hj] at this
            simpa using this
          have HBR := Lib.hid HB
          have b4 : ¬ ((200 : Int) < (k : Int)) := by omega
          clear HB hlt
          go_wp2
          go_ret
          exact ⟨by rw [HBR.out]; rfl, below_drewN (Below.refl _ _) _⟩
      · have HB := Lib.hid (bigR_long l (by rw [← HN.out]; exact e2))
        have b4 : (200 : Int) < (n : Int) := by omega
        have b5 : (k : Int) < (n : Int) := by omega
        clear hlt
        go_wp2
        go_ret
        exact ⟨by rw [HB.out]; rfl, below_drewN (Below.refl _ _) _⟩
end Go.Proofs.Ytedkgkokfaadfaa
