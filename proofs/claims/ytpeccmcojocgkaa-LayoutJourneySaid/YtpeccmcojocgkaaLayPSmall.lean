/-
  Contracts for the landed within, Suits, ownUses and kindOf. Conditions: none.
-/
import Derived.Test.YtpeccmcojocgkaaLayBox
import Derived.Test.YtpeccmcojocgkaaBcdPAll
namespace Go.Proofs.Ytpeccmcojocgkaa
set_option linter.unusedVariables false
open Go.ChangeShapes Go.WideShapes Go.ChangeAt Go.RowKit

theorem lwithin_any (n a b : Int) (v : Bool) (hv : (decide (a ≤ n) && decide (n ≤ b)) = v) (w : World) : Calls Try.prog 20 #[.int .i64 n, .int .i64 a, .int .i64 b] w fun e w' => e = .returned (.bool v) ∧ w = w' := by
  have HB := Lib.hid hv
  clear hv
  cases h0 : decide (a ≤ n) <;> cases h1 : decide (n ≤ b)
  all_goals
    have H0 := Lib.hid h0
    have H1 := Lib.hid h1
    go_enter Try.func20, Try.ntmps20
    go_wp2
    go_ret
    refine ⟨congrArg Ending.returned (congrArg Value.bool ?_), rfl⟩
    rw [← HB.out, H0.out, H1.out]
    rfl
set_option maxRecDepth 100000 in
set_option maxHeartbeats 1600000 in
theorem psuits_any (t : Tk) (left inn : Int) (b : Bool) (hb : suitB t.uses left inn = b) (w : World) : Calls Try.prog 15 #[.agg #[.int .i64 t.ser, .int .i64 t.kind, .int .i64 t.frm, .int .i64 t.till, .int .i64 t.cls, .int .i64 t.card, .int .i64 t.seat, .int .i64 t.day, .int .i64 t.days, .int .i64 t.uses, .int .i64 t.epoch], .agg #[.int .i64 left, .int .i64 inn]] w fun e w' => e = .returned (.bool b) ∧ Below w.heap.size w w' := by
  have HB := Lib.hid (show ((decide (0 ≤ left) && decide (left ≤ t.uses)) && (decide (0 ≤ inn) && decide (inn ≤ 40))) = b by rw [← hb, suitB, Bool.and_assoc])
  clear hb
  cases h0 : (decide (0 ≤ left) && decide (left ≤ t.uses)) <;> cases h1 : (decide (0 ≤ inn) && decide (inn ≤ 40))
  all_goals
    have hb := HB.out
    rw [h0, h1] at hb
    subst hb
    have H0 := Lib.hid h0
    have H1 := Lib.hid h1
    clear h0 h1
    go_enter Try.func15, Try.ntmps15
    go_wp2_with (go_at_call 20; refine (lwithin_any _ _ _ _ (by first | exact H0.out | exact H1.out) _).mono ?_; rintro e w1 ⟨rfl, rfl⟩)
    go_ret
    exact ⟨rfl, ((Below.refl _ _).alloc (Nat.le_refl _) _).alloc (by simp) _⟩
set_option maxRecDepth 100000 in
set_option maxHeartbeats 1600000 in
theorem rsuits_any (t : Tk) (left inn : Int) (b : Bool) (hb : suitB t.uses left inn = b) (w : World) : Calls Try.prog 16 #[.agg #[.int .i64 t.ser, .int .i64 t.kind, .int .i64 t.frm, .int .i64 t.till, .int .i64 t.cls, .int .i64 t.card, .int .i64 t.seat, .int .i64 t.day, .int .i64 t.days, .int .i64 t.uses, .int .i64 t.epoch], .agg #[.int .i64 left, .int .i64 inn]] w fun e w' => e = .returned (.bool b) ∧ Below w.heap.size w w' := by
  have HB := Lib.hid hb
  clear hb
  cases h0 : decide (0 ≤ left) <;> cases h1 : decide (left ≤ t.uses) <;> cases h2 : decide (0 ≤ inn) <;> cases h3 : decide (inn ≤ 40)
  all_goals
    have hb := HB.out
    rw [suitB, h0, h1, h2, h3] at hb
    subst hb
    go_enter Try.func16, Try.ntmps16
    go_wp2
    go_ret
    exact ⟨rfl, ((Below.refl _ _).alloc (Nat.le_refl _) _).alloc (by simp) _⟩
/-- How often a ticket of that kind is used, if no field tells it. -/
def ownU (k : Int) : Int := if k = 1 then 1 else if k = 2 then 2 else 0
theorem pown_any (k u : Int) (hu : ownU k = u) (w : World) : Calls Try.prog 39 #[.int .i64 k] w fun e w' => e = .returned (.int .i64 u) ∧ w = w' := by
  by_cases h1 : k = 1
  · obtain rfl : u = 1 := by rw [← hu, ownU, if_pos h1]
    have q1 : (k == 1) = true := by rw [beq_iff_eq]; exact h1
    clear hu h1
    go_enter Try.func39, Try.ntmps39
    go_wp2
    go_ret
    exact ⟨rfl, rfl⟩
  have q1 : (k == 1) = false := by rw [beq_eq_false_iff_ne]; exact h1
  by_cases h2 : k = 2
  · obtain rfl : u = 2 := by rw [← hu, ownU, if_neg h1, if_pos h2]
    have q2 : (k == 2) = true := by rw [beq_iff_eq]; exact h2
    clear hu h1 h2
    go_enter Try.func39, Try.ntmps39
    go_wp2
    go_ret
    exact ⟨rfl, rfl⟩
  have q2 : (k == 2) = false := by rw [beq_eq_false_iff_ne]; exact h2
  obtain rfl : u = 0 := by rw [← hu, ownU, if_neg h1, if_neg h2]
  clear hu h1 h2
  go_enter Try.func39, Try.ntmps39
  go_wp2
  go_ret
  exact ⟨rfl, rfl⟩
theorem pkindof_none (c : Nat) (A : Option Addr) (w : World) : Calls Try.prog 26 #[.slice A 0 c] w fun e w' => e = .returned (.tuple #[.int .i64 0, .int .i64 14]) ∧ w = w' := by
  go_enter Try.func26, Try.ntmps26
  go_wp2
  go_ret2
  exact ⟨rfl, rfl⟩
set_option maxRecDepth 100000 in
set_option maxHeartbeats 1600000 in
theorem pkindof_some (x : Nat) (l : List Nat) (n : Nat) (hn : n = (x :: l).length) (E : Int) (N : Nat) (hE : getX [x] = (E, N)) (A : Option Addr) (c : Nat) (w : World) (hA : Bs w w.heap.size (x :: l) A c) : Calls Try.prog 26 #[.slice A n c] w fun e w' => e = .returned (.tuple #[.int .i64 (N : Nat), .int .i64 E]) ∧ w = w' := by
  have h1 := hA.len
  have h2 := hA.cap
  simp only [List.length_cons] at hn h1
  have h3 : 1 ≤ c := by omega
  have h4 : 1 ≤ n := by omega
  have h5 : n ≤ c := by omega
  have hz : ((n : Int) == 0) = false := by rw [beq_eq_false_iff_ne]; omega
  have hs : Bs w w.heap.size [x] A c := ⟨fun k u hu => hA.rd k u (by
    rcases k with _ | k
    · simpa [U8] using hu
    · simp [U8] at hu), hA.nil, by simpa using h3, h2, fun y hy => hA.lt y (by simp at hy; simp [hy])⟩
  have HA := Lib.hid hs
  have HE := Lib.hid hE
  clear hA hs hE hn
  go_enter Try.func26, Try.ntmps26
  go_wp2_with (go_at_call 36; refine (pget_any [x] 1 rfl E N HE.out A c _ HA.out).mono ?_; rintro e w1 ⟨rfl, rfl⟩)
  go_ret2
  exact ⟨rfl, rfl⟩
end Go.Proofs.Ytpeccmcojocgkaa
