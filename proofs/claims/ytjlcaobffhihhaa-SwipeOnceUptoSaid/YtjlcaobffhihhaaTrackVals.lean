/-
  Values as ints, characters as five bits; a box of five bits beside a row of bits. Conditions: none.
-/
import Derived.Test.YtjlcaobffhihhaaTrackBackMath
import Derived.Test.YtjlcaobffhihhaaBools
import Derived.Test.YtjlcaobffhihhaaBsRow
import Derived.Test.YtjlcaobffhihhaaInts
import Derived.Test.YtjlcaobffhihhaaBitsBox
import Derived.Test.YtjlcaobffhihhaaParityRefSum
namespace Go.Proofs.Ytjlcaobffhihhaa
set_option linter.unusedVariables false
open Go.ChangeShapes Go.WideShapes Go.ChangeAt Go.RowKit

def NZ (vs : List Nat) : List Int := vs.map fun x : Nat => (x : Int)
theorem NZ_len (vs : List Nat) : (NZ vs).length = vs.length := by simp [NZ]
theorem NZ_append (a b : List Nat) : NZ (a ++ b) = NZ a ++ NZ b := by simp [NZ]
theorem NZ_at {vs : List Nat} {k v : Nat} (h : vs[k]? = some v) : (NZ vs)[k]? = some ((v : Int)) := by simp [NZ, h]
theorem sumX_nz (vs : List Nat) : sumX (NZ vs) = xorL vs := by
  unfold sumX NZ xorL
  rw [List.foldl_map]
  rfl
theorem sumOk_nz {vs : List Nat} (h : ∀ v ∈ vs, v < 16) : sumOk (NZ vs) = true := by
  rw [sumOk, List.all_eq_true]
  intro z hz
  simp only [NZ, List.mem_map] at hz
  obtain ⟨x, hx, rfl⟩ := hz
  exact (isV_iff _).2 ⟨by omega, by have := h x hx; omega⟩
theorem sum_nz {vs : List Nat} (h : ∀ v ∈ vs, v < 16) : sumV (NZ vs) = ((xorL vs : Nat) : Int) ∧ sumE (NZ vs) = 0 := by
  rw [sumV, sumE, if_pos (sumOk_nz h), if_pos (sumOk_nz h), sumX_nz]
  exact ⟨rfl, rfl⟩
def B5L (b : B5) : List Bool := [b.b0, b.b1, b.b2, b.b3, b.b4]
theorem char_facts : ∀ v : Nat, v < 16 → charV (v : Int) = ((charN v : Nat) : Int) ∧ charE (v : Int) = 0 ∧ bitsE ((charN v : Nat) : Int) = 0 ∧ B5L (bitsB ((charN v : Nat) : Int)) = cBits v := by decide
theorem B5L_at (b : B5) (q : Nat) (h : q < 5) : (B5L b)[q]? = some (getB b q) := by
  rcases (show q = 0 ∨ q = 1 ∨ q = 2 ∨ q = 3 ∨ q = 4 by omega) with rfl | rfl | rfl | rfl | rfl <;> rfl
theorem B5L_take (b : B5) (q : Nat) (h : q < 5) : (B5L b).take (q + 1) = (B5L b).take q ++ [getB b q] := by
  rw [List.take_add_one, B5L_at b q h]; rfl
theorem charsL_take {vs : List Nat} {k v : Nat} (h : vs[k]? = some v) : charsL (vs.take (k + 1)) = charsL (vs.take k) ++ cBits v := by
  rw [List.take_add_one, h, charsL_append]; simp [charsL]
/-- A box of five bits is kept while a row of bits grows. -/
theorem BBox.grown {w w' : World} {base n X : Nat} {v : Value} {xs : List Value} {d : B5} (h : BBox w X d) (hown : w.ownsRow base 4 1 v n xs) (hg : w.grownBy w' v.ownBlock) : BBox w' X d := by
  refine (hg.block X h.lt ?_).trans h
  intro e
  rcases hown.2 with ⟨rfl, _⟩ | ⟨g, cap, cur, rfl, _, hgg, _⟩
  · cases e
  · have e2 : X = g := by simpa [Value.ownBlock] using e
    subst e2
    rw [BBox, hgg] at h
    simp at h
theorem bbox_rd {w : World} {X : Nat} {d : B5} (h : BBox w X d) : ∀ j u, (BL (B5L d))[j]? = some u → w.cell? ((⟨X, 0, none⟩ : Addr).add j) = some u := by
  obtain ⟨h0, h1, h2, h3, h4⟩ := h.cells
  intro j u hu
  rw [at_add]
  match j, hu with
  | 0, hu => cases hu; exact h0
  | 1, hu => cases hu; exact h1
  | 2, hu => cases hu; exact h2
  | 3, hu => cases hu; exact h3
  | 4, hu => cases hu; exact h4
  | j + 5, hu => simp [BL, B5L] at hu
end Go.Proofs.Ytjlcaobffhihhaa
