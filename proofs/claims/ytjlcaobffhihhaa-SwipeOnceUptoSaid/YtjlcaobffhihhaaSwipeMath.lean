/-
  Plain facts for layer 14 (swipe): bits turned round, and what is read of bytes either way round. No memory and no program here.
-/
import Derived.Test.YtjlcaobffhihhaaTrackBackMath
namespace Go.Proofs.Ytjlcaobffhihhaa

def turnL (b : List Nat) : List Nat := packL (unpackL b).reverse
theorem turn_len (b : List Nat) : (turnL b).length = b.length := by rw [turnL, packL_len, List.length_reverse, unpackL_len]; omega
theorem turn_lt (b : List Nat) : ∀ x ∈ turnL b, x < 256 := packL_lt _
theorem unpack_pack8 (l : List Bool) (h : l.length % 8 = 0) : unpackL (packL l) = l := by
  have h1 := unpack_pack_take l
  rwa [List.take_of_length_le (by rw [unpackL_len, packL_len]; omega)] at h1
theorem turn_turn (b : List Nat) (hb : ∀ x ∈ b, x < 256) : turnL (turnL b) = b := by
  rw [turnL, turnL, unpack_pack8 _ (by rw [List.length_reverse, unpackL_len]; omega), List.reverse_reverse, pack_unpack b hb]
def readE (b : List Nat) : Int := if getE b = 0 then 0 else if getE (turnL b) = 0 then 0 else getE b
def readO (b : List Nat) : Bool := if getE b = 0 then false else if getE (turnL b) = 0 then true else false
def readL (b : List Nat) : List Nat := if getE b = 0 then getL b else if getE (turnL b) = 0 then getL (turnL b) else []
theorem read_first {b : List Nat} (h : getE b = 0) : readE b = 0 ∧ readO b = false ∧ readL b = getL b := by simp [readE, readO, readL, h]
theorem read_second {b : List Nat} (h : ¬ getE b = 0) (h2 : getE (turnL b) = 0) : readE b = 0 ∧ readO b = true ∧ readL b = getL (turnL b) := by simp [readE, readO, readL, h, h2]
theorem read_none {b : List Nat} (h : ¬ getE b = 0) (h2 : ¬ getE (turnL b) = 0) : readE b = getE b ∧ readO b = false ∧ readL b = [] := by simp [readE, readO, readL, h, h2]

/-- The row of bits behind k swaps. -/
def revP (l : List Bool) (k : Nat) : List Bool := (List.range l.length).map fun j => if j < k ∨ l.length < j + k + 1 then l.getD (l.length - 1 - j) false else l.getD j false
theorem revP_len (l : List Bool) (k : Nat) : (revP l k).length = l.length := by simp [revP]
theorem revP_at (l : List Bool) (k j : Nat) (h : j < l.length) : (revP l k)[j]? = some (if j < k ∨ l.length < j + k + 1 then l.getD (l.length - 1 - j) false else l.getD j false) := by
  rw [revP, List.getElem?_map, List.getElem?_range h]; rfl
theorem revP_zero (l : List Bool) : revP l 0 = l := by
  apply List.ext_getElem?
  intro j
  by_cases h : j < l.length
  · rw [revP_at l 0 j h, if_neg (by omega), List.getD_eq_getElem?_getD, List.getElem?_eq_getElem h]; rfl
  · rw [List.getElem?_eq_none (by rw [revP_len]; omega), List.getElem?_eq_none (by omega)]
theorem revP_half (l : List Bool) (k : Nat) (h : k = l.length / 2) : revP l k = l.reverse := by
  apply List.ext_getElem?
  intro j
  by_cases hj : j < l.length
  · rw [revP_at l k j hj, List.getElem?_reverse hj]
    rw [List.getD_eq_getElem?_getD, List.getD_eq_getElem?_getD, List.getElem?_eq_getElem (show l.length - 1 - j < l.length by omega), List.getElem?_eq_getElem hj]
    by_cases h2 : j < k ∨ l.length < j + k + 1
    · rw [if_pos h2]; rfl
    · rw [if_neg h2]
      have e : l.length - 1 - j = j := by omega
      simp [e]
  · rw [List.getElem?_eq_none (by rw [revP_len]; omega), List.getElem?_eq_none (by rw [List.length_reverse]; omega)]
theorem revP_low (l : List Bool) (k : Nat) (h : 2 * k + 1 < l.length) : (revP l k)[k]? = some (l.getD k false) := by
  rw [revP_at l k k (by omega), if_neg (by omega)]
theorem revP_high (l : List Bool) (k : Nat) (h : 2 * k + 1 < l.length) : (revP l k)[l.length - 1 - k]? = some (l.getD (l.length - 1 - k) false) := by
  rw [revP_at l k _ (by omega), if_neg (by omega)]
theorem revP_step (l : List Bool) (k : Nat) (h : 2 * k + 1 < l.length) : ((revP l k).set k (l.getD (l.length - 1 - k) false)).set (l.length - 1 - k) (l.getD k false) = revP l (k + 1) := by
  apply List.ext_getElem?
  intro j
  by_cases hj : j < l.length
  · by_cases h2 : j = l.length - 1 - k
    · subst h2
      rw [List.getElem?_set_self (by rw [List.length_set, revP_len]; exact hj), revP_at l (k + 1) _ hj, if_pos (by omega)]
      congr 2
      omega
    · rw [List.getElem?_set_ne (by omega)]
      by_cases h1 : j = k
      · subst h1
        rw [List.getElem?_set_self (by rw [revP_len]; exact hj), revP_at l (j + 1) j hj, if_pos (by omega)]
      · rw [List.getElem?_set_ne (by omega), revP_at l k j hj, revP_at l (k + 1) j hj]
        by_cases h3 : j < k ∨ l.length < j + k + 1
        · rw [if_pos h3, if_pos (by omega)]
        · rw [if_neg h3, if_neg (by omega)]
  · rw [List.getElem?_eq_none (by simp [revP_len]; omega), List.getElem?_eq_none (by rw [revP_len]; omega)]
theorem rev_take (l : List Bool) (k : Nat) (h : k < l.length) : l.reverse.take (k + 1) = l.reverse.take k ++ [l.getD (l.length - 1 - k) false] := by
  rw [List.take_add_one, List.getElem?_reverse h, List.getD_eq_getElem?_getD, List.getElem?_eq_getElem (show l.length - 1 - k < l.length by omega)]
  rfl
end Go.Proofs.Ytjlcaobffhihhaa
