/-
  Contracts of layer 4 under names: what Digits answers of any number, by the program and by the reference. Conditions: none.
-/
import Derived.Test.YtghepddfjdillaaSealDiffsLaw
namespace Go.Proofs.Ytghepddfjdillaa
set_option linter.unusedVariables false
open Go.ChangeShapes Go.WideShapes Go.ChangeAt Go.RowKit

def digL (n : Int) : List Nat := if n < 0 ∨ 4294967295 < n then [] else dec n.toNat
def digE (n : Int) : Int := if n < 0 ∨ 4294967295 < n then 1 else 0
theorem digL_lt (n : Int) : ∀ x ∈ digL n, x < 256 := by
  unfold digL
  split
  · simp
  · exact dec_lt _
theorem digL_len (n : Int) : (digL n).length ≤ 10 := by
  unfold digL
  split
  · simp
  · rw [length_dec]; omega
theorem digits_named (n : Int) (w : World) (L : List Nat) (k : Nat) (E : Int) (hL : L = digL n) (hk : k = L.length) (hE : E = digE n) :
    Calls Try.prog 12 #[.int .i64 n] w fun e w' => ∃ A c, e = .returned (.tuple #[.slice A k c, .int .i64 E]) ∧ Rd w' w'.heap.size A (U8 L) ∧ Below w.heap.size w w' := by
  subst hk hE hL
  by_cases h : n < 0 ∨ 4294967295 < n
  · have e1 : digL n = [] := if_pos h
    have e2 : digE n = 1 := if_pos h
    rw [e1, e2]
    refine (digits_arg n w h).mono ?_
    rintro e w' ⟨rfl, rfl⟩
    exact ⟨none, 0, rfl, by intro k u hu; simp [U8] at hu, Below.refl _ _⟩
  · have e1 : digL n = dec n.toNat := if_neg h
    have e2 : digE n = 0 := if_neg h
    rw [e1, e2, length_dec]
    obtain ⟨m, rfl⟩ : ∃ m : Nat, n = (m : Int) := ⟨n.toNat, by omega⟩
    rw [Int.toNat_natCast]
    refine (digits_ok m w (by omega)).mono ?_
    rintro e w' ⟨g, c, rfl, hr, hb⟩
    exact ⟨_, c, rfl, hr, hb⟩
theorem refdigits_named (n : Int) (w : World) (L : List Nat) (k : Nat) (E : Int) (hL : L = digL n) (hk : k = L.length) (hE : E = digE n) :
    Calls Try.prog 13 #[.int .i64 n] w fun e w' => ∃ A c, e = .returned (.tuple #[.slice A k c, .int .i64 E]) ∧ Rd w' w'.heap.size A (U8 L) ∧ Below w.heap.size w w' := by
  subst hk hE hL
  by_cases h : n < 0 ∨ 4294967295 < n
  · have e1 : digL n = [] := if_pos h
    have e2 : digE n = 1 := if_pos h
    rw [e1, e2]
    refine (refdigits_arg n w h).mono ?_
    rintro e w' ⟨rfl, rfl⟩
    exact ⟨none, 0, rfl, by intro k u hu; simp [U8] at hu, Below.refl _ _⟩
  · have e1 : digL n = dec n.toNat := if_neg h
    have e2 : digE n = 0 := if_neg h
    rw [e1, e2, length_dec]
    obtain ⟨m, rfl⟩ : ∃ m : Nat, n = (m : Int) := ⟨n.toNat, by omega⟩
    rw [Int.toNat_natCast]
    refine (refdigits_ok m w (by omega)).mono ?_
    rintro e w' ⟨g, c, rfl, hr, hb⟩
    exact ⟨_, c, rfl, hr, hb⟩
theorem cut_named (l : List Nat) (F : Array Value) (hF : F = (U8 l).toArray) (w : World) (hb : ∀ x ∈ l, x < 256) (hl : l.length = 32) (v : Nat) (hv : v = valB (l.take 4)) :
    Calls Try.prog 14 #[.agg F] w fun e w' => e = .returned (.int .i64 (v : Int)) ∧ Below w.heap.size w w' := by
  subst hv
  exact cut_any l F hF w hb hl
theorem refcut_named (l : List Nat) (F : Array Value) (hF : F = (U8 l).toArray) (w : World) (hb : ∀ x ∈ l, x < 256) (hl : l.length = 32) (v : Nat) (hv : v = valB (l.take 4)) :
    Calls Try.prog 15 #[.agg F] w fun e w' => e = .returned (.int .i64 (v : Int)) ∧ Below w.heap.size w w' := by
  subst hv
  exact refcut_any l F hF w hb hl
end Go.Proofs.Ytghepddfjdillaa
