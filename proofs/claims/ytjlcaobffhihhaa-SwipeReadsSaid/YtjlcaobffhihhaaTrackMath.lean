/-
  Plain facts for layer 11 (track): bits and bytes. No memory and no program here.
-/
import Derived.Test.YtjlcaobffhihhaaMath
namespace Go.Proofs.Ytjlcaobffhihhaa

def bit (b : Bool) : Nat := if b = true then 1 else 0
theorem bit_le (b : Bool) : bit b ≤ 1 := by unfold bit; split <;> omega
/-- The number that the k bits from place i on are, the highest first; what lies behind the end is 0. -/
def accB (l : List Bool) (i : Nat) : Nat → Nat
  | 0 => 0
  | k + 1 => 2 * accB l i k + bit (l.getD (i + k) false)
theorem accB_lt (l : List Bool) (i : Nat) : ∀ k, accB l i k < 2 ^ k
  | 0 => by simp [accB]
  | k + 1 => by
    have h := accB_lt l i k
    have hb := bit_le (l.getD (i + k) false)
    rw [accB, Nat.pow_succ]
    omega
/-- The first m bytes of bits. -/
def packN (l : List Bool) (m : Nat) : List Nat := (List.range m).map fun j => accB l (8 * j) 8
theorem packN_len (l : List Bool) (m : Nat) : (packN l m).length = m := by simp [packN]
theorem packN_succ (l : List Bool) (m : Nat) : packN l (m + 1) = packN l m ++ [accB l (8 * m) 8] := by simp [packN, List.range_succ]
def packL (l : List Bool) : List Nat := packN l ((l.length + 7) / 8)
theorem packL_len (l : List Bool) : (packL l).length = (l.length + 7) / 8 := packN_len _ _
theorem packL_lt (l : List Bool) : ∀ x ∈ packL l, x < 256 := by
  intro x hx
  simp only [packL, packN, List.mem_map] at hx
  obtain ⟨j, _, rfl⟩ := hx
  exact accB_lt l (8 * j) 8
/-- The first k bits of a byte, the highest first. -/
def bitsOf (x k : Nat) : List Bool := (List.range k).map fun j => x / 2 ^ (7 - j) % 2 == 1
theorem bitsOf_len (x k : Nat) : (bitsOf x k).length = k := by simp [bitsOf]
theorem bitsOf_succ (x k : Nat) : bitsOf x (k + 1) = bitsOf x k ++ [x / 2 ^ (7 - k) % 2 == 1] := by simp [bitsOf, List.range_succ]
def unpackL (b : List Nat) : List Bool := b.flatMap fun x => bitsOf x 8
theorem unpackL_cons (x : Nat) (b : List Nat) : unpackL (x :: b) = bitsOf x 8 ++ unpackL b := by simp [unpackL]
theorem unpackL_len : ∀ b : List Nat, (unpackL b).length = 8 * b.length
  | [] => rfl
  | x :: b => by rw [unpackL_cons, List.length_append, bitsOf_len, unpackL_len b, List.length_cons]; omega
theorem unpackL_snoc (b : List Nat) (x : Nat) : unpackL (b ++ [x]) = unpackL b ++ bitsOf x 8 := by simp [unpackL]
theorem unpackL_take {b : List Nat} {k x : Nat} (h : b[k]? = some x) : unpackL (b.take (k + 1)) = unpackL (b.take k) ++ bitsOf x 8 := by
  rw [List.take_add_one, h]; exact unpackL_snoc _ _
theorem bitsOf_at (x : Nat) : bitsOf x 8 = [x / 128 % 2 == 1, x / 64 % 2 == 1, x / 32 % 2 == 1, x / 16 % 2 == 1, x / 8 % 2 == 1, x / 4 % 2 == 1, x / 2 % 2 == 1, x / 1 % 2 == 1] := rfl
theorem bit_of (x : Nat) : bit (x % 2 == 1) = x % 2 := by
  unfold bit
  by_cases h : x % 2 = 1
  · rw [if_pos (by rw [beq_iff_eq]; exact h), h]
  · rw [if_neg (by rw [beq_iff_eq]; exact h)]; omega
theorem accB_app (a l : List Bool) (i : Nat) (h : i = a.length) : ∀ k, accB (a ++ l) i k = accB l 0 k
  | 0 => rfl
  | k + 1 => by
    rw [accB, accB, accB_app a l i h k]
    subst h
    rw [Nat.zero_add, List.getD_eq_getElem?_getD, List.getD_eq_getElem?_getD, List.getElem?_append_right (by omega)]
    rw [Nat.add_sub_cancel_left]
theorem accB_byte (x : Nat) (hx : x < 256) (l : List Bool) : accB (bitsOf x 8 ++ l) 0 8 = x := by
  rw [bitsOf_at]
  simp only [accB, List.cons_append, List.nil_append, List.getD_cons_zero, List.getD_cons_succ, Nat.zero_add, bit_of]
  omega
theorem pack_unpack_at : ∀ (b : List Nat), (∀ x ∈ b, x < 256) → ∀ j x, b[j]? = some x → accB (unpackL b) (8 * j) 8 = x
  | [], _, j, x, h => by simp at h
  | y :: b, hb, 0, x, h => by
    simp at h
    subst h
    rw [unpackL_cons]
    exact accB_byte y (hb y (by simp)) _
  | y :: b, hb, j + 1, x, h => by
    have ih := pack_unpack_at b (fun z hz => hb z (by simp [hz])) j x (by simpa using h)
    rw [← ih, unpackL_cons]
    have hshift : ∀ k, accB (bitsOf y 8 ++ unpackL b) (8 * (j + 1)) k = accB (unpackL b) (8 * j) k := by
      intro k
      induction k with
      | zero => rfl
      | succ k ihk =>
        rw [accB, accB, ihk, List.getD_eq_getElem?_getD, List.getD_eq_getElem?_getD, List.getElem?_append_right (by rw [bitsOf_len]; omega), bitsOf_len]
        congr 4
        omega
    exact hshift 8
theorem pack_unpack (b : List Nat) (hb : ∀ x ∈ b, x < 256) : packL (unpackL b) = b := by
  apply List.ext_getElem?
  intro j
  rw [packL, unpackL_len, show (8 * b.length + 7) / 8 = b.length by omega]
  by_cases h : j < b.length
  · obtain ⟨x, hx⟩ : ∃ x, b[j]? = some x := ⟨_, List.getElem?_eq_getElem h⟩
    rw [packN, List.getElem?_map, List.getElem?_range h, hx, Option.map_some, pack_unpack_at b hb j x hx]
  · rw [List.getElem?_eq_none (by rw [packN_len]; omega), List.getElem?_eq_none (by omega)]
end Go.Proofs.Ytjlcaobffhihhaa
