/-
  Plain facts for the landed package day: years, and the twelve months of one. No memory and no program here.
-/
import Derived.Test.YtiekfcpinljcjaaDayMath
namespace Go.Proofs.Ytiekfcpinljcjaa

/-- How many days a year has. -/
def yl (y : Int) : Nat := if leapN y = true then 366 else 365
theorem yl_ge (y : Int) : 365 ≤ yl y := by unfold yl; split <;> omega
theorem yl_le (y : Int) : yl y ≤ 366 := by unfold yl; split <;> omega
/-- How many days its second month has. -/
def feb (y : Int) : Nat := if leapN y = true then 29 else 28
/-- Its months' days. -/
def mls (f : Nat) : List Nat := [31, f, 31, 30, 31, 30, 31, 31, 30, 31, 30, 31]
theorem mls_len (f : Nat) : (mls f).length = 12 := rfl
theorem mls_at (y : Int) : ∀ k : Nat, k < 12 → (mls (feb y)).getD k 0 = lenM y ((k : Int) + 1)
  | 0, _ => rfl
  | 1, _ => rfl
  | 2, _ => rfl
  | 3, _ => rfl
  | 4, _ => rfl
  | 5, _ => rfl
  | 6, _ => rfl
  | 7, _ => rfl
  | 8, _ => rfl
  | 9, _ => rfl
  | 10, _ => rfl
  | 11, _ => rfl
  | k + 12, h => absurd h (by omega)
theorem len_at (j k : Nat) (h : k < 12) : len (12 * j + k) = lenM (2000 + (j : Int)) ((k : Int) + 1) := by
  have e1 : yr (12 * j + k) = 2000 + (j : Int) := by unfold yr; omega
  have e2 : mo (12 * j + k) = (k : Int) + 1 := by unfold mo; omega
  rw [len, e1, e2]
theorem mls_len_at (j k : Nat) (h : k < 12) : (mls (feb (2000 + (j : Int)))).getD k 0 = len (12 * j + k) := by rw [mls_at _ _ h, len_at _ _ h]
theorem dsum_year (j : Nat) : dsum (12 * (j + 1)) = dsum (12 * j) + yl (2000 + (j : Int)) := by
  have e : 12 * (j + 1) = 12 * j + 1 + 1 + 1 + 1 + 1 + 1 + 1 + 1 + 1 + 1 + 1 + 1 := by omega
  rw [e]
  simp only [dsum_succ]
  have h0 := len_at j 0 (by omega)
  have h1 := len_at j 1 (by omega)
  have h2 := len_at j 2 (by omega)
  have h3 := len_at j 3 (by omega)
  have h4 := len_at j 4 (by omega)
  have h5 := len_at j 5 (by omega)
  have h6 := len_at j 6 (by omega)
  have h7 := len_at j 7 (by omega)
  have h8 := len_at j 8 (by omega)
  have h9 := len_at j 9 (by omega)
  have h10 := len_at j 10 (by omega)
  have h11 := len_at j 11 (by omega)
  rw [← mls_at _ _ (by omega)] at h0 h1 h2 h3 h4 h5 h6 h7 h8 h9 h10 h11
  simp only [mls, List.getD_cons_zero, List.getD_cons_succ] at h0 h1 h2 h3 h4 h5 h6 h7 h8 h9 h10 h11
  have hf : yl (2000 + (j : Int)) = 337 + feb (2000 + (j : Int)) := by unfold yl feb; split <;> rfl
  simp only [Nat.add_assoc, Nat.reduceAdd, Nat.add_zero] at *
  omega
theorem dsum_years : ∀ j : Nat, 365 * j ≤ dsum (12 * j)
  | 0 => Nat.zero_le _
  | j + 1 => by have := dsum_years j; have := yl_ge (2000 + (j : Int)); rw [dsum_year]; omega
theorem dsum_years_le : ∀ j : Nat, dsum (12 * j) ≤ 366 * j
  | 0 => Nat.le_refl _
  | j + 1 => by have := dsum_years_le j; have := yl_le (2000 + (j : Int)); rw [dsum_year]; omega
/-- Whether the program takes a date for one of a year that has days. -/
def dateB (d : D) : Bool := decide (2000 ≤ d.y) && (decide (d.y ≤ 2273) && (decide (1 ≤ d.m) && (decide (d.m ≤ 12) && (decide (1 ≤ d.d) && decide (d.d ≤ (lenM d.y d.m : Nat))))))
theorem dateB_iff (d : D) : dateB d = true ↔ 2000 ≤ d.y ∧ d.y ≤ 2273 ∧ 1 ≤ d.m ∧ d.m ≤ 12 ∧ 1 ≤ d.d ∧ d.d ≤ (lenM d.y d.m : Nat) := by simp [dateB]
theorem okD_dateB {d : D} (h : okD d = true) : dateB d = true := by
  rw [okD, Bool.and_eq_true, decide_eq_true_iff] at h
  obtain ⟨hf, hc⟩ := h
  have hf := (formD_iff d).1 hf
  refine (dateB_iff d).2 ⟨hf.1, ?_, hf.2.2.1, hf.2.2.2.1, hf.2.2.2.2.1, hf.2.2.2.2.2⟩
  rcases Int.lt_or_le 2273 d.y with h1 | h1
  · exfalso
    have h2 : 12 * 274 ≤ ixD d := by unfold ixD; omega
    have h3 := dsum_mono h2
    have h4 := dsum_years 274
    unfold cnt at hc
    omega
  · exact h1
theorem okD_of {d : D} (h : dateB d = true) (hc : cnt d ≤ 99999) : okD d = true := by
  have hf := (dateB_iff d).1 h
  rw [okD, Bool.and_eq_true, decide_eq_true_iff]
  exact ⟨(formD_iff d).2 ⟨hf.1, by omega, hf.2.2.1, hf.2.2.2.1, hf.2.2.2.2.1, hf.2.2.2.2.2⟩, hc⟩
theorem okD_bad {d : D} (h : dateB d = false) : okD d = false := by
  cases e : okD d
  · rfl
  · rw [okD_dateB e] at h; cases h
end Go.Proofs.Ytiekfcpinljcjaa
