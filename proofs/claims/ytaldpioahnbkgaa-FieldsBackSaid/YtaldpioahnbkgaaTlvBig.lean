/-
  Contract for the reference's Big: whether there is too much to be looked at. Conditions: the slice reads as fields.
-/
import Derived.Test.YtaldpioahnbkgaaTlvMem
namespace Go.Proofs.Ytaldpioahnbkgaa
set_option linter.unusedVariables false
open Go.ChangeShapes Go.WideShapes Go.ChangeAt Go.RowKit

def bigT (l : List Tf) : Bool := decide (300 < l.length) || l.any fun f => decide (400 < f.val.length)
theorem bigT_long (l : List Tf) (h : 300 < l.length) : bigT l = true := by simp [bigT, h]
theorem bigT_at (l : List Tf) (k : Nat) (h : k < l.length) (h4 : 400 < (l.getD k TF0).val.length) : bigT l = true := by
  simp only [bigT, Bool.or_eq_true, List.any_eq_true, decide_eq_true_eq]
  refine .inr ⟨l.getD k TF0, ?_, h4⟩
  rw [List.getD_eq_getElem?_getD, List.getElem?_eq_getElem h]
  exact List.getElem_mem h
theorem bigT_no (l : List Tf) (h : l.length ≤ 300) (h4 : ∀ k, k < l.length → (l.getD k TF0).val.length ≤ 400) : bigT l = false := by
  simp only [bigT, Bool.or_eq_false_iff, decide_eq_false_iff_not, List.any_eq_false, decide_eq_true_eq]
  refine ⟨by omega, fun x hx => ?_⟩
  obtain ⟨j, hj, rfl⟩ := List.getElem_of_mem hx
  have := h4 j hj
  rw [List.getD_eq_getElem?_getD, List.getElem?_eq_getElem hj] at this
  simpa using this
theorem bigT_false {l : List Tf} (h : bigT l = false) : l.length ≤ 300 ∧ ∀ f ∈ l, f.val.length ≤ 400 := by
  simp only [bigT, Bool.or_eq_false_iff, decide_eq_false_iff_not, List.any_eq_false, decide_eq_true_eq] at h
  exact ⟨by omega, fun f hf => by have := h.2 f hf; omega⟩

set_option maxRecDepth 20000 in
theorem refbig_tlv (l : List Tf) (n : Nat) (hn : n = l.length) (b : Bool) (hb : bigT l = b) (A : Option Addr) (c : Nat) (w : World) (hA : Ts w w.heap.size l A c) :
    Calls Try.prog 14 #[.slice A n c] w fun e w' => e = .returned (.bool b) ∧ w = w' := by
  have h1 : n ≤ 9223372036854775807 := by have h1 := hA.len; have h2 := hA.cap; omega
  have HN := Lib.hid hn
  have HB := Lib.hid hb
  have HA := Lib.hid hA
  clear hn hb hA
  go_enter Try.func14, Try.ntmps14
  go_wp2
  go_loop [3] (fun i => ∃ k : Nat, k ≤ n ∧ i = .int .i64 k ∧ (0 < k → n ≤ 300) ∧ ∀ j, j < k → (l.getD j TF0).val.length ≤ 400) (fun i => n - (intOf i).toNat)
  case atStart => exact ⟨0, Nat.zero_le _, rfl, by omega, by omega⟩
  case round =>
    obtain ⟨k, hk, rfl, h300, hall⟩ := hrel
    have HH := Lib.hid hall
    clear hall
    by_cases hlt : k < n ∧ n ≤ 300
    · obtain ⟨hlt, hle⟩ := hlt
      obtain ⟨ad, S, cc, rfl, had, hk4⟩ := HA.out.rd k (by rw [← HN.out]; exact hlt)
      have hc1 := hk4.c1
      have hcap := hk4.bs.len
      have hcap2 := hk4.bs.cap
      have HKL := Lib.hid (show k < l.length by rw [← HN.out]; exact hlt)
      have b1 : (0 : Int) ≤ (k : Int) := by omega
      have b2 : (k : Int) < (n : Int) := by omega
      have b3 : (n : Int) ≤ 300 := by omega
      obtain ⟨x, hx⟩ : ∃ x, x = l.getD k TF0 := ⟨_, rfl⟩
      rw [← hx] at hc1 hcap
      have HX := Lib.hid hx
      clear hx hk4
      by_cases hb : 400 < x.val.length
      · have HBR := Lib.hid (HB.out.symm.trans (bigT_at l k HKL.out (by rw [← HX.out]; exact hb)))
        have b4 : (400 : Int) < (x.val.length : Int) := by omega
        go_wp2
        go_ret
        exact ⟨by rw [HBR.out]; rfl, rfl⟩
      · have HST := Lib.hid (show ∀ j, j < k + 1 → (l.getD j TF0).val.length ≤ 400 from by
          intro j hj
          rcases Nat.lt_or_ge j k with h | h
          · exact HH.out j h
          · have e : j = k := by omega
            subst e; rw [← HX.out]; omega)
        have b4 : ¬ ((400 : Int) < (x.val.length : Int)) := by omega
        go_wp2
        go_round
        case rel => exact ⟨k + 1, by omega, by go_num, fun _ => hle, HST.out⟩
        case measure => simp [intOf]; omega
    · rcases (show k = n ∨ (k < n ∧ 300 < n) by omega) with e | ⟨e, e2⟩
      · subst e
        by_cases h0 : 300 < k
        · have HBR := Lib.hid (HB.out.symm.trans (bigT_long l (by rw [← HN.out]; exact h0)))
          have b4 : (300 : Int) < (k : Int) := by omega
          clear hlt
          go_wp2
          go_ret
          exact ⟨by rw [HBR.out]; rfl, rfl⟩
        · have HBR := Lib.hid (HB.out.symm.trans (bigT_no l (by rw [← HN.out]; omega) (fun j hj => HH.out j (by rw [HN.out]; exact hj))))
          have b4 : ¬ ((300 : Int) < (k : Int)) := by omega
          clear hlt
          go_wp2
          go_ret
          exact ⟨by rw [HBR.out]; rfl, rfl⟩
      · have HBR := Lib.hid (HB.out.symm.trans (bigT_long l (by rw [← HN.out]; exact e2)))
        have b4 : (300 : Int) < (n : Int) := by omega
        have b5 : (k : Int) < (n : Int) := by omega
        clear hlt
        go_wp2
        go_ret
        exact ⟨by rw [HBR.out]; rfl, rfl⟩
end Go.Proofs.Ytaldpioahnbkgaa
