/-
  What all layers share: plain facts of bytes, readings of memory, rows, openings.
-/
import Derived.Test.YtaldpioahnbkgaaRows
import Derived.WalkKit
import Derived.ProofKit
import Derived.OpenShut
import Derived.Laws.BitsAllLaws
import Derived.Lib.Hide
import Derived.Below
import Derived.Deep.Draws
import Derived.OwnWalk
import Derived.RegionTactic
import Derived.BigRegion
import Derived.Deep.QuietTactic
import Derived.BigQuiet
import Derived.Deep.AppendLies
import Derived.Deep.RegionHeld3
import Derived.Laws.AppendOwnNone
import Derived.Laws.Rows
import Derived.Laws.CopyOwn
import Derived.StillTailTactics
import Derived.Laws.StructEq
import Derived.Deep.MidRow
import Derived.Carry
import Derived.ChangeSlices
import Derived.SizedLaws
namespace Go.Proofs.Ytaldpioahnbkgaa

/-- One place further down, what leaves at the end comes in at the front. -/
def stp (x : Nat) : Nat := x / 2 + x % 2 * 2147483648
/-- k places further down. -/
def itr : Nat → Nat → Nat
  | 0, x => x
  | k + 1, x => stp (itr k x)
def rotF (x k : Nat) : Nat := x / 2 ^ k + x % 2 ^ k * 2 ^ (32 - k)

theorem stp_lt {x : Nat} (h : x < 4294967296) : stp x < 4294967296 := by unfold stp; omega
theorem itr_lt (k : Nat) {x : Nat} (h : x < 4294967296) : itr k x < 4294967296 := by
  induction k with
  | zero => exact h
  | succ k ih => exact stp_lt ih

theorem rotF_succ (x k : Nat) (hk : k < 32) : rotF x (k + 1) = stp (rotF x k) := by
  have e1 : 2 ^ (32 - k) = 2 * 2 ^ (32 - (k + 1)) := by rw [show 32 - k = (32 - (k + 1)) + 1 by omega, Nat.pow_succ]; omega
  have e2 : x / 2 ^ (k + 1) = x / 2 ^ k / 2 := by rw [Nat.pow_succ, Nat.div_div_eq_div_mul]
  have e3 : x % 2 ^ (k + 1) = x % 2 ^ k + 2 ^ k * (x / 2 ^ k % 2) := by rw [Nat.pow_succ, Nat.mod_mul]
  have e4 : 2 ^ k * 2 ^ (32 - (k + 1)) = 2147483648 := by rw [← Nat.pow_add, show k + (32 - (k + 1)) = 31 by omega]
  unfold rotF stp
  rw [e1, e2, e3, Nat.add_mul, Nat.mul_assoc, Nat.mul_comm (x / 2 ^ k % 2), ← Nat.mul_assoc, e4]
  have e5 : x % 2 ^ k * (2 * 2 ^ (32 - (k + 1))) = 2 * (x % 2 ^ k * 2 ^ (32 - (k + 1))) := by rw [Nat.mul_left_comm]
  rw [e5]
  generalize x % 2 ^ k * 2 ^ (32 - (k + 1)) = p
  generalize x / 2 ^ k = q
  omega

theorem rotF_zero (x : Nat) : rotF x 0 = x := by unfold rotF; simp [Nat.mod_one]
theorem itr_eq (x k : Nat) (hk : k ≤ 32) : itr k x = rotF x k := by
  induction k with
  | zero => exact (rotF_zero x).symm
  | succ k ih => rw [rotF_succ x k (by omega), ← ih (by omega)]; rfl
theorem itr_round {x : Nat} (h : x < 4294967296) : itr 32 x = x := by
  rw [itr_eq x 32 (by omega)]; unfold rotF; simp; omega
theorem itr_add (a b x : Nat) : itr (a + b) x = itr a (itr b x) := by
  induction a with
  | zero => simp [itr]
  | succ a ih => rw [Nat.succ_add]; show stp _ = stp _; rw [ih]
theorem itr_mod (k : Nat) {x : Nat} (h : x < 4294967296) : itr (k % 32) x = itr k x := by
  induction k using Nat.strongRecOn with
  | _ k ih =>
    by_cases hk : k < 32
    · rw [Nat.mod_eq_of_lt hk]
    · have e : k = (k - 32) + 32 := by omega
      rw [e, itr_add, itr_round h, ← ih (k - 32) (by omega)]
      congr 1
      omega
theorem itr_like {a b x : Nat} (h : x < 4294967296) (hab : a % 32 = b % 32) : itr a x = itr b x := by
  rw [← itr_mod a h, ← itr_mod b h, hab]

/-- What the two shifted words make together. -/
theorem or_rot (x k : Nat) (hx : x < 4294967296) (hk : k < 32) : x / 2 ^ k ||| x * 2 ^ (32 - k) % 4294967296 = itr k x := by
  have e : (4294967296 : Nat) = 2 ^ k * 2 ^ (32 - k) := by rw [← Nat.pow_add, show k + (32 - k) = 32 by omega]
  have hlt : x / 2 ^ k < 2 ^ (32 - k) := by
    rw [Nat.div_lt_iff_lt_mul (Nat.two_pow_pos k), Nat.mul_comm, ← e]; exact hx
  rw [itr_eq x k (by omega), e, Nat.mul_mod_mul_right, Nat.or_comm, Nat.mul_comm, ← Nat.two_pow_add_eq_or_of_lt hlt]
  unfold rotF
  rw [Nat.mul_comm (x % 2 ^ k), Nat.add_comm]

/-- The number that bytes are, the highest one first. -/
def valB (l : List Nat) : Nat := l.foldl (fun a b => a * 256 + b) 0
theorem valB_snoc (l : List Nat) (x : Nat) : valB (l ++ [x]) = valB l * 256 + x := by simp [valB]
theorem foldl_shift (l : List Nat) (a : Nat) : l.foldl (fun a b => a * 256 + b) a = a * 256 ^ l.length + valB l := by
  induction l generalizing a with
  | nil => simp [valB]
  | cons x l ih =>
    rw [List.foldl_cons, ih]
    have e : valB (x :: l) = x * 256 ^ l.length + valB l := by
      show List.foldl _ _ _ = _
      rw [List.foldl_cons, ih]; simp
    rw [e, List.length_cons, Nat.pow_succ, Nat.add_mul, Nat.mul_assoc, Nat.mul_comm 256, Nat.add_assoc]
theorem valB_cons (x : Nat) (l : List Nat) : valB (x :: l) = x * 256 ^ l.length + valB l := by
  show List.foldl _ _ _ = _
  rw [List.foldl_cons, foldl_shift]; simp

theorem valB_lt (l : List Nat) (h : ∀ x ∈ l, x < 256) : valB l < 256 ^ l.length := by
  induction l with
  | nil => simp [valB]
  | cons x l ih =>
    have h1 := ih (fun y hy => h y (by simp [hy]))
    have h2 := h x (by simp)
    rw [valB_cons, List.length_cons, Nat.pow_succ]
    have h3 : x * 256 ^ l.length ≤ 255 * 256 ^ l.length := Nat.mul_le_mul_right _ (by omega)
    omega

/-- The word j of the first i bytes of l. -/
def wordAt (l : List Nat) (i j : Nat) : Nat := valB (((l.take i).drop (4 * j)).take 4)
def wordsUpto (l : List Nat) (m i : Nat) : List Nat := (List.range m).map (wordAt l i)
theorem length_wordsUpto (l : List Nat) (m i : Nat) : (wordsUpto l m i).length = m := by simp [wordsUpto]

theorem wordAt_next (l : List Nat) (i : Nat) (hi : i < l.length) : wordAt l (i + 1) (i / 4) = wordAt l i (i / 4) * 256 + l[i] := by
  unfold wordAt
  rw [List.take_succ_eq_append_getElem hi, List.drop_append_of_le_length (by simp; omega), List.take_of_length_le (by simp; omega), List.take_of_length_le (l := (l.take i).drop (4 * (i / 4))) (by simp; omega), valB_snoc]
theorem wordAt_other (l : List Nat) (i j : Nat) (hi : i < l.length) (hj : j ≠ i / 4) : wordAt l (i + 1) j = wordAt l i j := by
  unfold wordAt
  rw [List.take_succ_eq_append_getElem hi]
  by_cases h : j < i / 4
  · rw [List.drop_append_of_le_length (by simp; omega), List.take_append_of_le_length (by simp; omega)]
  · rw [List.drop_eq_nil_of_le (by simp; omega), List.drop_eq_nil_of_le (by simp; omega)]
theorem wordsUpto_set (l : List Nat) (m i : Nat) (hi : i < l.length) : (wordsUpto l m i).set (i / 4) (wordAt l i (i / 4) * 256 + l[i]) = wordsUpto l m (i + 1) := by
  apply List.ext_getElem
  · simp [wordsUpto]
  · intro j h1 h2
    rw [List.getElem_set]
    simp only [wordsUpto, List.getElem_map, List.getElem_range]
    split
    · next h => subst h; rw [wordAt_next l i hi]
    · next h => rw [wordAt_other l i j hi (by omega)]
theorem mem_part {l : List Nat} {i a b x : Nat} (h : x ∈ ((l.take i).drop a).take b) : x ∈ l := List.mem_of_mem_take (List.mem_of_mem_drop (List.mem_of_mem_take h))
theorem wordAt_lt (l : List Nat) (hl : ∀ x ∈ l, x < 256) (i j : Nat) : wordAt l i j < 4294967296 := by
  have h := valB_lt (((l.take i).drop (4 * j)).take 4) (fun x hx => hl x (mem_part hx))
  have h2 : 256 ^ (((l.take i).drop (4 * j)).take 4).length ≤ 256 ^ 4 := Nat.pow_le_pow_right (by omega) (by simp; omega)
  unfold wordAt
  omega
/-- A word that is not whole yet has room for a byte more. -/
theorem wordAt_room (l : List Nat) (hl : ∀ x ∈ l, x < 256) (i : Nat) : wordAt l i (i / 4) < 16777216 := by
  have h := valB_lt (((l.take i).drop (4 * (i / 4))).take 4) (fun x hx => hl x (mem_part hx))
  have h2 : 256 ^ (((l.take i).drop (4 * (i / 4))).take 4).length ≤ 256 ^ 3 := Nat.pow_le_pow_right (by omega) (by simp; omega)
  unfold wordAt
  omega
theorem wordAt_none (l : List Nat) (j : Nat) : wordAt l 0 j = 0 := by simp [wordAt, valB]
theorem wordsUpto_zero (l : List Nat) (m : Nat) : wordsUpto l m 0 = List.replicate m 0 := by
  apply List.ext_getElem
  · simp [wordsUpto]
  · intro j h1 h2
    simp [wordsUpto, wordAt_none]
theorem wordsUpto_get (l : List Nat) (m i j : Nat) (h : j < m) : (wordsUpto l m i)[j]? = some (wordAt l i j) := by simp [wordsUpto, h]

/-- The words of bytes. -/
def wordsOf (l : List Nat) : List Nat := wordsUpto l (l.length / 4) l.length
theorem length_wordsOf (l : List Nat) : (wordsOf l).length = l.length / 4 := by simp [wordsOf, wordsUpto]
theorem wordsOf_lt (l : List Nat) (hl : ∀ x ∈ l, x < 256) : ∀ x ∈ wordsOf l, x < 4294967296 := by
  intro x hx
  simp only [wordsOf, wordsUpto, List.mem_map] at hx
  obtain ⟨j, _, rfl⟩ := hx
  exact wordAt_lt l hl _ _
theorem wordsUpto_succ (l : List Nat) (k i : Nat) : wordsUpto l (k + 1) i = wordsUpto l k i ++ [wordAt l i k] := by simp [wordsUpto, List.range_succ]

/-- The byte i of words. -/
def byteAt (ws : List Nat) (i : Nat) : Nat := ws.getD (i / 4) 0 / 2 ^ (8 * (3 - i % 4)) % 256
def bytesUpto (ws : List Nat) (m i : Nat) : List Nat := (List.range m).map fun t => if t < i then byteAt ws t else 0
def bytesOf (ws : List Nat) : List Nat := (List.range (4 * ws.length)).map (byteAt ws)
theorem length_bytesOf (ws : List Nat) : (bytesOf ws).length = 4 * ws.length := by simp [bytesOf]
theorem byteAt_lt (ws : List Nat) (i : Nat) : byteAt ws i < 256 := Nat.mod_lt _ (by omega)
theorem bytesOf_lt (ws : List Nat) : ∀ x ∈ bytesOf ws, x < 256 := by
  intro x hx
  simp only [bytesOf, List.mem_map] at hx
  obtain ⟨j, _, rfl⟩ := hx
  exact byteAt_lt ws j
theorem bytesUpto_zero (ws : List Nat) (m : Nat) : bytesUpto ws m 0 = List.replicate m 0 := by
  apply List.ext_getElem <;> simp [bytesUpto]
theorem bytesUpto_set (ws : List Nat) (m i : Nat) : (bytesUpto ws m i).set i (byteAt ws i) = bytesUpto ws m (i + 1) := by
  apply List.ext_getElem
  · simp [bytesUpto]
  · intro j h1 h2
    rw [List.getElem_set]
    simp only [bytesUpto, List.getElem_map, List.getElem_range]
    split
    · next h => subst h; simp
    · next h => 
      by_cases h3 : j < i
      · rw [if_pos h3, if_pos (by omega)]
      · rw [if_neg h3, if_neg (by omega)]
theorem bytesUpto_all (ws : List Nat) : bytesUpto ws (4 * ws.length) (4 * ws.length) = bytesOf ws := by
  apply List.ext_getElem
  · simp [bytesUpto, bytesOf]
  · intro j h1 h2
    rw [length_bytesOf] at h2
    simp [bytesUpto, bytesOf, h2]
/-- The bytes of the first k words. -/
def bytesTo (ws : List Nat) (k : Nat) : List Nat := (List.range (4 * k)).map (byteAt ws)
theorem bytesTo_succ (ws : List Nat) (k : Nat) (hk : k < ws.length) (hw : ∀ x ∈ ws, x < 4294967296) :
    bytesTo ws (k + 1) = bytesTo ws k ++ [ws[k] / 16777216, ws[k] / 65536 % 256, ws[k] / 256 % 256, ws[k] % 256] := by
  have hx := hw ws[k] (List.getElem_mem hk)
  unfold bytesTo
  rw [show 4 * (k + 1) = 4 * k + 1 + 1 + 1 + 1 by omega]
  simp only [List.range_succ, List.map_append, List.map_cons, List.map_nil, List.append_assoc, List.cons_append, List.nil_append]
  have d0 : 4 * k / 4 = k := by omega
  have d1 : (4 * k + 1) / 4 = k := by omega
  have d2 : (4 * k + 1 + 1) / 4 = k := by omega
  have d3 : (4 * k + 1 + 1 + 1) / 4 = k := by omega
  have m0 : 4 * k % 4 = 0 := by omega
  have m1 : (4 * k + 1) % 4 = 1 := by omega
  have m2 : (4 * k + 1 + 1) % 4 = 2 := by omega
  have m3 : (4 * k + 1 + 1 + 1) % 4 = 3 := by omega
  have g : ws.getD k 0 = ws[k] := by simp [hk]
  simp only [byteAt, d0, d1, d2, d3, m0, m1, m2, m3, g]
  congr 1
  simp only [Nat.reduceSub, Nat.reduceMul, Nat.reducePow, Nat.div_one, List.cons.injEq, and_true]
  omega

theorem valB_four (a b c d : Nat) : valB [a, b, c, d] = ((a * 256 + b) * 256 + c) * 256 + d := by simp [valB]
theorem four_of (l : List Nat) (j : Nat) (h : 4 * j + 4 ≤ l.length) : (l.drop (4 * j)).take 4 = [l[4 * j], l[4 * j + 1], l[4 * j + 2], l[4 * j + 3]] := by
  apply List.ext_getElem
  · simp; omega
  · intro t h1 h2
    simp at h2
    match t, h2 with
    | 0, _ => simp
    | 1, _ => simp
    | 2, _ => simp
    | 3, _ => simp
theorem wordAt_full (l : List Nat) (j : Nat) (h : 4 * j + 4 ≤ l.length) : wordAt l l.length j = ((l[4 * j] * 256 + l[4 * j + 1]) * 256 + l[4 * j + 2]) * 256 + l[4 * j + 3] := by
  unfold wordAt
  rw [List.take_length, four_of l j h, valB_four]

/-- Words that were made bytes are words again. -/
theorem words_bytes (ws : List Nat) (hw : ∀ x ∈ ws, x < 4294967296) : wordsOf (bytesOf ws) = ws := by
  have hl := length_bytesOf ws
  apply List.ext_getElem
  · rw [length_wordsOf, hl]; omega
  · intro j h1 h2
    have hx := hw ws[j] (List.getElem_mem h2)
    have g : ws.getD j 0 = ws[j] := by simp [h2]
    simp only [wordsOf, wordsUpto, List.getElem_map, List.getElem_range]
    rw [wordAt_full _ _ (by omega)]
    simp only [bytesOf, List.getElem_map, List.getElem_range]
    have d0 : 4 * j / 4 = j := by omega
    have d1 : (4 * j + 1) / 4 = j := by omega
    have d2 : (4 * j + 2) / 4 = j := by omega
    have d3 : (4 * j + 3) / 4 = j := by omega
    have m0 : 4 * j % 4 = 0 := by omega
    have m1 : (4 * j + 1) % 4 = 1 := by omega
    have m2 : (4 * j + 2) % 4 = 2 := by omega
    have m3 : (4 * j + 3) % 4 = 3 := by omega
    simp only [byteAt, d0, d1, d2, d3, m0, m1, m2, m3, g, Nat.reduceSub, Nat.reduceMul, Nat.reducePow, Nat.div_one]
    omega

/-- Bytes that were made words are bytes again. -/
theorem bytes_words (l : List Nat) (hl : ∀ x ∈ l, x < 256) (h4 : l.length % 4 = 0) : bytesOf (wordsOf l) = l := by
  have hn := length_wordsOf l
  apply List.ext_getElem
  · rw [length_bytesOf, hn]; omega
  · intro i h1 h2
    simp only [bytesOf, List.getElem_map, List.getElem_range]
    have hj : i / 4 < (wordsOf l).length := by omega
    have g : (wordsOf l).getD (i / 4) 0 = wordAt l l.length (i / 4) := by
      rw [List.getD_eq_getElem?_getD, List.getElem?_eq_getElem hj]
      simp [wordsOf, wordsUpto]
    unfold byteAt
    rw [g, wordAt_full l (i / 4) (by omega)]
    have a0 := hl _ (List.getElem_mem (show 4 * (i / 4) < l.length by omega))
    have a1 := hl _ (List.getElem_mem (show 4 * (i / 4) + 1 < l.length by omega))
    have a2 := hl _ (List.getElem_mem (show 4 * (i / 4) + 2 < l.length by omega))
    have a3 := hl _ (List.getElem_mem (show 4 * (i / 4) + 3 < l.length by omega))
    rcases (show i % 4 = 0 ∨ i % 4 = 1 ∨ i % 4 = 2 ∨ i % 4 = 3 by omega) with e | e | e | e
    · have q : l[i] = l[4 * (i / 4)] := by congr 1; omega
      rw [e, q]; simp only [Nat.reduceSub, Nat.reduceMul, Nat.reducePow]; omega
    · have q : l[i] = l[4 * (i / 4) + 1] := by congr 1; omega
      rw [e, q]; simp only [Nat.reduceSub, Nat.reduceMul, Nat.reducePow]; omega
    · have q : l[i] = l[4 * (i / 4) + 2] := by congr 1; omega
      rw [e, q]; simp only [Nat.reduceSub, Nat.reduceMul, Nat.reducePow]; omega
    · have q : l[i] = l[4 * (i / 4) + 3] := by congr 1; omega
      rw [e, q]; simp only [Nat.reduceSub, Nat.reduceMul, Nat.reducePow, Nat.div_one]; omega

/-- n as size bytes, the highest one first. -/
def putB (n : Nat) : Nat → List Nat
  | 0 => []
  | k + 1 => n / 256 ^ k % 256 :: putB n k
theorem length_putB (n k : Nat) : (putB n k).length = k := by
  induction k with
  | zero => rfl
  | succ k ih => simp [putB, ih]
theorem putB_lt (n k : Nat) : ∀ x ∈ putB n k, x < 256 := by
  induction k with
  | zero => intro x hx; simp [putB] at hx
  | succ k ih =>
    intro x hx
    rcases List.mem_cons.1 hx with rfl | hx
    · exact Nat.mod_lt _ (by omega)
    · exact ih x hx
theorem putB_get (n k i : Nat) (h : i < k) : (putB n k)[i]? = some (n / 256 ^ (k - 1 - i) % 256) := by
  induction k generalizing i with
  | zero => omega
  | succ k ih =>
    match i with
    | 0 => simp [putB]
    | i + 1 =>
      rw [putB, List.getElem?_cons_succ, ih i (by omega), show k + 1 - 1 - (i + 1) = k - 1 - i by omega]
def putUpto (n m i : Nat) : List Nat := (List.range m).map fun t => if t < i then n / 256 ^ (m - 1 - t) % 256 else 0
theorem putUpto_zero (n m : Nat) : putUpto n m 0 = List.replicate m 0 := by
  apply List.ext_getElem <;> simp [putUpto]
theorem putUpto_set (n m i : Nat) : (putUpto n m i).set i (n / 256 ^ (m - 1 - i) % 256) = putUpto n m (i + 1) := by
  apply List.ext_getElem
  · simp [putUpto]
  · intro j h1 h2
    rw [List.getElem_set]
    simp only [putUpto, List.getElem_map, List.getElem_range]
    split
    · next h => subst h; simp
    · next h =>
      by_cases h3 : j < i
      · rw [if_pos h3, if_pos (by omega)]
      · rw [if_neg h3, if_neg (by omega)]
theorem putUpto_all (n m : Nat) : putUpto n m m = putB n m := by
  apply List.ext_getElem?
  intro j
  by_cases h : j < m
  · rw [putB_get n m j h]; simp [putUpto, h]
  · rw [List.getElem?_eq_none (by simp [putUpto]; omega), List.getElem?_eq_none (by rw [length_putB]; omega)]
/-- What was put is got again. -/
theorem valB_putB (n k : Nat) : valB (putB n k) = n % 256 ^ k := by
  induction k with
  | zero => simp [putB, valB, Nat.mod_one]
  | succ k ih => rw [putB, valB_cons, length_putB, ih, Nat.pow_succ, Nat.mod_mul, Nat.mul_comm, Nat.add_comm]
set_option linter.unusedVariables false
open Go.ChangeShapes Go.WideShapes Go.ChangeAt Go.RowKit

theorem infoU32 : (Try.prog.info? 100).map (fun i => (i.zero, i.size, i.bytes)) = some (some (.int .u32 0), 1, 4) := by kernel_rfl
theorem infoU8 : (Try.prog.info? 5).map (fun i => (i.zero, i.size, i.bytes)) = some (some (.int .u8 0), 1, 1) := by kernel_rfl


/-- From the address A on lie the cells xs, one behind the other, below block B. -/
def Rd (w : World) (B : Nat) (A : Option Addr) (xs : List Value) : Prop :=
  ∀ k u, xs[k]? = some u → ∃ ad, A = some ad ∧ ad.block < B ∧ w.cell? (ad.add k) = some u

theorem add_block (a : Addr) (n : Nat) : (a.add n).block = a.block := by unfold Addr.add; split <;> rfl
theorem Rd.below {w w' : World} {B : Nat} {A : Option Addr} {xs : List Value} (h : Rd w B A xs) (hb : Below B w w') : Rd w' B A xs := by
  intro k u hu
  obtain ⟨ad, e, hlt, hc⟩ := h k u hu
  exact ⟨ad, e, hlt, (hb.cell (by rw [add_block]; exact hlt)).trans hc⟩
theorem Rd.more {w : World} {B B' : Nat} {A : Option Addr} {xs : List Value} (h : Rd w B A xs) (hB : B ≤ B') : Rd w B' A xs := by
  intro k u hu
  obtain ⟨ad, e, hlt, hc⟩ := h k u hu
  exact ⟨ad, e, by omega, hc⟩
theorem below_drewN {B : Nat} {a w : World} (h : Below B a w) (n : Nat) : Below B a (w.drewN n) := ⟨h.os, h.tape, h.output, h.size, h.block⟩

def U8 (l : List Nat) : List Value := l.map fun x : Nat => Value.int .u8 (x : Int)
def U32 (l : List Nat) : List Value := l.map fun x : Nat => Value.int .u32 (x : Int)
theorem U8_at (l : List Nat) (k : Nat) (h : k < l.length) : (U8 l)[k]? = some (.int .u8 ((l[k] : Nat) : Int)) := by simp [U8, h]
theorem U32_at (l : List Nat) (k : Nat) (h : k < l.length) : (U32 l)[k]? = some (.int .u32 ((l[k] : Nat) : Int)) := by simp [U32, h]


theorem at_add (g k : Nat) : (⟨g, 0, none⟩ : Addr).add k = ⟨g, k, none⟩ := by
  unfold Addr.add
  split
  · next h => subst h; rfl
  · simp
/-- What a call owns can be read. -/
theorem Rd.of_own {w : World} {base : Nat} {e : TypeId} {g n cap : Nat} {xs : List Value} (h : w.ownsRow base e 1 (.slice (some ⟨g, 0, none⟩) n cap) n xs) : Rd w w.heap.size (some ⟨g, 0, none⟩) xs := by
  intro k u hu
  refine ⟨_, rfl, ?_, ?_⟩
  · rcases h.2 with ⟨h', _⟩ | ⟨g', cap', cur, h', _, hg, _⟩
    · simp at h'
    · simp only [Value.slice.injEq, Option.some.injEq, Addr.mk.injEq, and_true, true_and] at h'
      obtain ⟨rfl, rfl⟩ := h'
      rcases Nat.lt_or_ge g w.heap.size with hlt | hge
      · exact hlt
      · rw [Array.getElem?_eq_none hge] at hg; cases hg
  · have hk : k < xs.length := by
      rcases Nat.lt_or_ge k xs.length with hlt | hge
      · exact hlt
      · rw [List.getElem?_eq_none hge] at hu; cases hu
    have h1 := h.1
    rw [at_add, h.cellAt k (by omega)]
    exact hu
/-- A literal that was just laid can be read. -/
theorem rd_lit (w : World) (cs : Array Value) (t : TypeId) : Rd (w.alloc (.cells cs t)) (w.alloc (.cells cs t)).heap.size (some ⟨w.heap.size, 0, none⟩) cs.toList := by
  intro k u hu
  refine ⟨_, rfl, by simp, ?_⟩
  rw [at_add, cell_of_row (w.alloc (.cells cs t)) w.heap.size k cs t (0, 0) (heap_alloc_new w _)]
  simpa using hu
theorem below_lit (w : World) (cs : Array Value) (t : TypeId) : Below w.heap.size w (w.alloc (.cells cs t)) := (Below.refl _ _).alloc (Nat.le_refl _) _
theorem Rd.next {w w' : World} {A : Option Addr} {xs : List Value} (h : Rd w w.heap.size A xs) (hb : Below w.heap.size w w') : Rd w' w'.heap.size A xs := (h.below hb).more hb.size
theorem below_after {w w' : World} (cs : Array Value) (t : TypeId) (h : Below (w.alloc (.cells cs t)).heap.size (w.alloc (.cells cs t)) w') : Below w.heap.size w w' :=
  (below_lit w cs t).trans (h.mono (by simp))


theorem own_shape {w : World} {base : Nat} {e : TypeId} {v : Value} {n : Nat} {xs : List Value} (h : w.ownsRow base e 1 v n xs) : ∃ A cap, v = .slice A n cap ∧ Rd w w.heap.size A xs := by
  have h0 := h
  rcases h.2 with ⟨rfl, hn⟩ | ⟨g, cap, cur, rfl, _⟩
  · have hx : xs = [] := by
      have h1 := h.1
      subst hn
      exact List.eq_nil_of_length_eq_zero (by simpa using h1)
    subst hn hx
    exact ⟨none, 0, rfl, by intro k u hu; simp at hu⟩
  · exact ⟨_, _, rfl, Rd.of_own h0⟩

theorem own_ge {w : World} {base : Nat} {e : TypeId} {size : Nat} {v : Value} {n : Nat} {xs : List Value} (h : w.ownsRow base e size v n xs) {g : Nat} (hg : v.ownBlock = some g) : base ≤ g := by
  rcases h.2 with ⟨rfl, _⟩ | ⟨g', cap, cur, rfl, hb, _⟩
  · simp [Value.ownBlock] at hg
  · simp [Value.ownBlock] at hg
    omega


theorem add_zero' (ad : Addr) : ad.add 0 = ad := by simp [Addr.add]

/-- What a call owns it owns still, behind a call that turned nothing old. -/
theorem own_below {w w' : World} {base : Nat} {e : TypeId} {size : Nat} {v : Value} {n : Nat} {xs : List Value} (h : w.ownsRow base e size v n xs) (hb : Below w.heap.size w w') : w'.ownsRow base e size v n xs := by
  refine ⟨h.1, ?_⟩
  rcases h.2 with hn | ⟨g, cap, cur, rfl, h1, hg, rest⟩
  · exact .inl hn
  · refine .inr ⟨g, cap, cur, rfl, h1, ?_, rest⟩
    rw [hb.block g (Array.getElem?_eq_some_iff.1 hg).1]
    exact hg

/-- append onto a row of the call's own, from whatever slice can be read, nil too. -/
theorem wpList_append_rd {P : Program} (w : World) {ops : Array Oper} {rest : List Oper} {o : Oper} {a : Act} {Q : Exit → Act → World → Prop} (hgd : o.guard = none) (s x : Operand) (t : TypeId)
    (ho : o.op = .call { callee := .builtin .append, args := #[s, x], argTypes := #[t, t] })
    (base : Nat) (e : TypeId) (i : TypeInfo) (z : Value) (bytes : Nat) (ht : P.underlying t = some (.slice e)) (hi : P.info? e = some i) (hz : i.zero = some z) (hsize : i.size = 1) (hby : i.bytes = bytes) (hzs : z.cells.size = 1)
    (v : Value) (n : Nat) (xs : List Value) (hs : a.eval s = v) (hown : w.ownsRow base e 1 v n xs)
    (B : Nat) (A : Option Addr) (m c : Nat) (news : List Value) (hx : a.eval x = .slice A m c) (hr : Rd w B A news) (hl : news.length = m) (hnone : A = none → c = 0) (h1 : ∀ u ∈ news, u.oneCell' = true)
    (h63 : n + m ≤ maxLen) (hbytes : (n + m) * bytes ≤ 140737488355328) (hbase : base ≤ w.heap.size)
    (h : ∀ v' w', w'.ownsRow base e 1 v' (n + m) (xs ++ news) → w.grownBy w' v.ownBlock → wpList P ops Q rest (a.put o.dst v') w') : wpList P ops Q (o :: rest) a w := by
  rcases A with _ | ad
  · have hn : news = [] := by
      cases news with
      | nil => rfl
      | cons u r =>
        obtain ⟨ad, he, _⟩ := hr 0 u rfl
        cases he
    subst hn
    have hm : m = 0 := by simpa using hl.symm
    subst hm
    obtain rfl := hnone rfl
    exact wpList_append_own_none hgd s x t ho base e i 1 ht hi v n xs hs hown hx (h v w (by simpa using hown) (World.grownBy.refl w _))
  · refine wpList_append_own w hgd s x t ho base e i z 1 bytes ht hi hz hsize hby hzs (by omega) v n xs hs hown ad m c news hx (by omega) ?_ h1 h63 hbytes hbase (fun v' w' h2 h3 _ => h v' w' h2 h3)
    intro j u hu
    obtain ⟨ad', he, _, hc⟩ := hr j u hu
    cases he
    exact hc
theorem U8_one (l : List Nat) : ∀ u ∈ U8 l, u.oneCell' = true := by
  intro u hu
  simp only [U8, List.mem_map] at hu
  obtain ⟨x, _, rfl⟩ := hu
  rfl
theorem U32_one (l : List Nat) : ∀ u ∈ U32 l, u.oneCell' = true := by
  intro u hu
  simp only [U32, List.mem_map] at hu
  obtain ⟨x, _, rfl⟩ := hu
  rfl
theorem Rd.alloc {w : World} {B : Nat} {A : Option Addr} {xs : List Value} (h : Rd w B A xs) (hB : B ≤ w.heap.size) (o : Obj) : Rd (w.alloc o) B A xs := by
  intro k u hu
  obtain ⟨ad, e, hlt, hc⟩ := h k u hu
  exact ⟨ad, e, hlt, (World.cell?_alloc_lt _ _ _ (by rw [add_block]; omega)).trans hc⟩
set_option linter.unusedVariables false
open Go.ChangeShapes Go.WideShapes Go.ChangeAt Go.RowKit

section
variable {P : Program}
/-- The walk stands at a load into slot d. -/
theorem at_load (d : Nat) {ops : Array Oper} {rest : List Oper} {ty t : TypeId} {x : Operand} {p : String} {af : Array Edge} {g : Option (Nat × Bool)} {a : Act} {w : World} {Q : Exit → Act → World → Prop} (h : wpList P ops Q (⟨some d, .load ty x, t, p, af, g⟩ :: rest) a w) : wpList P ops Q (⟨some d, .load ty x, t, p, af, g⟩ :: rest) a w := h
/-- The walk stands at a store through slot d. -/
theorem at_store (d : Nat) {ops : Array Oper} {rest : List Oper} {ty t : TypeId} {y : Operand} {p : String} {af : Array Edge} {g : Option (Nat × Bool)} {a : Act} {w : World} {Q : Exit → Act → World → Prop} (h : wpList P ops Q (⟨none, .store ty (.tmp d) y, t, p, af, g⟩ :: rest) a w) : wpList P ops Q (⟨none, .store ty (.tmp d) y, t, p, af, g⟩ :: rest) a w := h
/-- A whole array is stored; the world behind it bears a name. -/
theorem wpList_store_named {ops : Array Oper} {rest : List Oper} {o : Oper} {a : Act} {w : World} {Q : Exit → Act → World → Prop} (hgd : o.guard = none) (ty : TypeId) (x y : Operand) (ho : o.op = .store ty x y)
    (g : Nat) (cells : Array Value) (hx : a.eval x = .pointer (some ⟨g, 0, none⟩)) (hy : a.eval y = .agg cells)
    (t : TypeId) (old : Array Value) (hg : w.heap[g]? = some (.cells old t (0, 0))) (hi : (P.info? ty).map (·.size) = some cells.size)
    (hold : old.size = cells.size) (h1 : cells.all (·.oneCell') = true)
    (h : ∀ w', Hid (w' = w.setRow g cells) → wpList P ops Q rest (a.put o.dst undef) w') : wpList P ops Q (o :: rest) a w :=
  wpList_store_row hgd ty x y ho g cells hx hy t old hg hi hold h1 (h _ (Lib.hid rfl))
end

section
variable {P : Program} (w : World)
/-- An array of integers is the same as itself. -/
theorem run_equalIn_same (d : Nat) (t e : TypeId) (n : Nat) (k k' : IntKind) (ht : P.underlying t = some (.array n e)) (he : P.underlying e = some (.int k')) (hsz : ∀ w, (sizeOf e).run P w = .ok 1 w)
    (xs : List Int) (hx : xs.length = n) :
    (Op.equalIn (d + 2) t (.agg (xs.map (Value.int k)).toArray) (.agg (xs.map (Value.int k)).toArray)).run P w = .ok true w := by
  rw [Op.equalIn]
  simp only [Sem.run_bind, run_underlying ht, Result.andThen_ok, hsz, Std.Legacy.Range.forIn_eq_forIn_range', Std.Legacy.Range.size, Nat.sub_zero, Nat.add_sub_cancel, Nat.div_one]
  have hl : ∀ i ∈ List.range' 0 n 1, i < n := fun i hi => by simpa using (List.mem_range'_1.1 hi).2
  generalize List.range' 0 n 1 = l at hl ⊢
  induction l with
  | nil => simp
  | cons i l ih =>
    have hi : i < n := hl i (by simp)
    have px : (part e (xs.map (Value.int k)).toArray (i * 1)).run P w = .ok (.int k (xs.getD i 0)) w := by
      simp [part, isAgg, run_underlying he, List.getD, List.getElem?_eq_getElem (show i < xs.length by omega)]
    have pe : (Op.equalIn (d + 1) e (.int k (xs.getD i 0)) (.int k (xs.getD i 0))).run P w = .ok true w := by
      rw [run_equalIn_int w d e k k' _ _ he]
      simp
    simp only [List.forIn_cons, Sem.run_bind, px, pe, Result.andThen_ok]
    simp only [Bool.not_true, Bool.false_eq_true, if_false, Sem.run_pure, Result.andThen_ok]
    exact ih fun j hj => hl j (by simp [hj])
end

theorem below_row {w w' : World} {B g : Nat} {cs : Array Value} (h : w' = w.setRow g cs) (hB : B ≤ g) : Below B w w' := by
  subst h
  exact below_setRow (Below.refl _ _) hB cs
theorem all_one32 (l : List Nat) : (U32 l).toArray.all (·.oneCell') = true := by
  rw [Array.all_eq_true_iff_forall_mem]
  intro u hu
  exact U32_one l u (by simpa using hu)
theorem all_one8 (l : List Nat) : (U8 l).toArray.all (·.oneCell') = true := by
  rw [Array.all_eq_true_iff_forall_mem]
  intro u hu
  exact U8_one l u (by simpa using hu)
def z64 : Array Value := #[.int .u32 0, .int .u32 0, .int .u32 0, .int .u32 0, .int .u32 0, .int .u32 0, .int .u32 0, .int .u32 0, .int .u32 0, .int .u32 0, .int .u32 0, .int .u32 0, .int .u32 0, .int .u32 0, .int .u32 0, .int .u32 0, .int .u32 0, .int .u32 0, .int .u32 0, .int .u32 0, .int .u32 0, .int .u32 0, .int .u32 0, .int .u32 0, .int .u32 0, .int .u32 0, .int .u32 0, .int .u32 0, .int .u32 0, .int .u32 0, .int .u32 0, .int .u32 0, .int .u32 0, .int .u32 0, .int .u32 0, .int .u32 0, .int .u32 0, .int .u32 0, .int .u32 0, .int .u32 0, .int .u32 0, .int .u32 0, .int .u32 0, .int .u32 0, .int .u32 0, .int .u32 0, .int .u32 0, .int .u32 0, .int .u32 0, .int .u32 0, .int .u32 0, .int .u32 0, .int .u32 0, .int .u32 0, .int .u32 0, .int .u32 0, .int .u32 0, .int .u32 0, .int .u32 0, .int .u32 0, .int .u32 0, .int .u32 0, .int .u32 0, .int .u32 0]
def z16 : Array Value := #[.int .u32 0, .int .u32 0, .int .u32 0, .int .u32 0, .int .u32 0, .int .u32 0, .int .u32 0, .int .u32 0, .int .u32 0, .int .u32 0, .int .u32 0, .int .u32 0, .int .u32 0, .int .u32 0, .int .u32 0, .int .u32 0]
def z8 : Array Value := #[.int .u32 0, .int .u32 0, .int .u32 0, .int .u32 0, .int .u32 0, .int .u32 0, .int .u32 0, .int .u32 0]
def b32 : Array Value := #[.int .u8 0, .int .u8 0, .int .u8 0, .int .u8 0, .int .u8 0, .int .u8 0, .int .u8 0, .int .u8 0, .int .u8 0, .int .u8 0, .int .u8 0, .int .u8 0, .int .u8 0, .int .u8 0, .int .u8 0, .int .u8 0, .int .u8 0, .int .u8 0, .int .u8 0, .int .u8 0, .int .u8 0, .int .u8 0, .int .u8 0, .int .u8 0, .int .u8 0, .int .u8 0, .int .u8 0, .int .u8 0, .int .u8 0, .int .u8 0, .int .u8 0, .int .u8 0]
theorem z64_eq : z64 = (U32 (List.replicate 64 0)).toArray := rfl
theorem z16_eq : z16 = (U32 (List.replicate 16 0)).toArray := rfl
theorem b32_eq : b32 = (U8 (List.replicate 32 0)).toArray := rfl
set_option linter.unusedVariables false
open Go.ChangeShapes Go.WideShapes Go.ChangeAt Go.RowKit

theorem run_storeVar_cell {P : Program} (w : World) (b o : Nat) (ty : TypeId) (v : Value) (h1 : v.oneCell' = true) (hc : (w.cell? ⟨b, o, none⟩).isSome = true) (hf : w.frozen? ⟨b, o, none⟩ = false) (hi : (P.info? ty).map (·.size) = some 1) :
    (storeVar ty ⟨b, o, none⟩ v).run P w = .ok () (w.setCell ⟨b, o, none⟩ v) := by
  have := run_storeCells_cells (P := P) b o [v] 0 w (fun j hj => by have : j = 0 := by simpa using hj
                                                                    subst this; simpa using hc) (fun j hj => by have : j = 0 := by simpa using hj
                                                                                                                subst this; simpa using hf) (fun x hx => by simp at hx; subst hx; exact h1)
  have he : v.cells = #[v] := by cases v <;> first | rfl | cases h1
  cases hq : P.info? ty with
  | none => simp [hq] at hi
  | some i =>
    have hs : i.size = 1 := by simpa [hq] using hi
    simp only [Nat.add_zero] at this
    simp [storeVar, sizeOf, typeInfo, hq, he, hs, this]
    rfl
theorem wpList_store_cell {P : Program} {ops : Array Oper} {rest : List Oper} {op : Oper} {a : Act} {w : World} {Q : Exit → Act → World → Prop} (hgd : op.guard = none) (ty : TypeId) (x y : Operand) (ho : op.op = .store ty x y)
    (b o : Nat) (v : Value) (hx : a.eval x = .pointer (some ⟨b, o, none⟩)) (hy : a.eval y = v) (h1 : v.oneCell' = true)
    (hc : (w.cell? ⟨b, o, none⟩).isSome = true) (hf : w.frozen? ⟨b, o, none⟩ = false) (hi : (P.info? ty).map (·.size) = some 1)
    (h : ∀ w', Hid (w' = w.setCell ⟨b, o, none⟩ v) → wpList P ops Q rest (a.put op.dst undef) w') : wpList P ops Q (op :: rest) a w :=
  wpList_plain hgd fun _ hK => by
    unfold Oper.wp execOp
    simp only [ho, hx, hy, Instr.storeAt, Instr.sureAddr, Sem.run_bind, Sem.run_pure, Result.andThen_ok, run_storeVar_cell w b o ty v h1 hc hf hi]
    exact hK _ _ (h _ (Lib.hid rfl))
theorem results_row {P : Program} {fn : Func} {p : Tmp} {ty : TypeId} (h : fn.results = #[.cell p ty]) (tmps : Array Value) (w : World) (g : Nat) (t : TypeId) (cs : Array Value) (fr : Nat × Nat) (d : TypeDesc)
    (hp : tmps.getD p undef = .pointer (some ⟨g, 0, none⟩)) (hg : w.heap[g]? = some (.cells cs t fr))
    (hu : P.underlying ty = some d) (hd : (match d with | .struct _ | .array _ _ => true | _ => false) = true) (hi : (P.info? ty).map (·.size) = some cs.size) :
    (results fn tmps).run P w = .ok (.agg cs) w := by
  have hp' : tmps[p]?.getD undef = .pointer (some ⟨g, 0, none⟩) := by simpa using hp
  simp [results, h, hp', asAddr, run_loadVar_row w g t ty cs fr d hg hu hd hi]
theorem results_row_tmp' {P : Program} {fn : Func} {p u : Tmp} {ty : TypeId} (h : fn.results = #[.cell p ty, .tmp u]) (tmps : Array Value) (w : World) (g : Nat) (t : TypeId) (cs : Array Value) (fr : Nat × Nat) (d : TypeDesc)
    (hp : tmps.getD p undef = .pointer (some ⟨g, 0, none⟩)) (hg : w.heap[g]? = some (.cells cs t fr))
    (hu : P.underlying ty = some d) (hd : (match d with | .struct _ | .array _ _ => true | _ => false) = true) (hi : (P.info? ty).map (·.size) = some cs.size) :
    (results fn tmps).run P w = .ok (.tuple #[.agg cs, tmps.getD u undef]) w := by
  have hp' : tmps[p]?.getD undef = .pointer (some ⟨g, 0, none⟩) := by simpa using hp
  simp [results, h, hp', asAddr, run_loadVar_row w g t ty cs fr d hg hu hd hi]
theorem grown_cell (W : World) (b o : Nat) (v : Value) : W.grownBy (W.setCell ⟨b, o, none⟩ v) (some b) :=
  ⟨rfl, rfl, rfl, by simp, fun k _ hk => Below.heap_setCell W _ v k (fun e => hk (by rw [e]))⟩
theorem grown_row (W : World) (b : Nat) (c : Array Value) : W.grownBy (W.setRow b c) (some b) :=
  ⟨rfl, rfl, rfl, by simp, fun k _ hk => setRow_other W b k c (fun e => hk (by rw [e]))⟩
def In64 (x : Int) : Prop := -9223372036854775808 ≤ x ∧ x ≤ 9223372036854775807
theorem in64_nat {k : Nat} (h : k ≤ 9223372036854775807) : In64 (k : Int) := by unfold In64; omega
set_option linter.unusedVariables false
open Go.ChangeShapes Go.WideShapes Go.ChangeAt Go.RowKit

theorem Try.own : ownKnob Try.prog.godebug = none := by kernel_rfl
theorem Try.laidOut : laidOutB Try.prog = true := by kernel_rfl
theorem Try.cellsU8 : Try.prog.cellsOf 5 = 1 := by kernel_rfl
theorem Try.cellsU32 : Try.prog.cellsOf 100 = 1 := by kernel_rfl

section
variable {H : Type} {enc : TypeId × Value → H} {P : Program}

/-- Arguments read, behind a call that turned nothing old, as they read before it. -/
theorem trodAll_kept (hl : laidOutB P = true) {W W' : World} (hb : Below W.heap.size W W') : ∀ {ts : List TypeId} {vs : List Value} {ds : List (DataW H)} {ps : List MemPlace},
    ts.all (fun t => P.readableRec t && decide (t < P.types.size)) = true → (∀ x ∈ ps, x.block < W.heap.size) →
    DataW.TrodAll enc P W 0 (fun _ => true) true ts vs ds ps → DataW.TrodAll enc P W' 0 (fun b => decide (b < W.heap.size)) true ts vs ds ps
  | [], [], [], _, _, _, h => h
  | [], _ :: _, _, _, _, _, h => h.elim
  | [], [], _ :: _, _, _, _, h => h.elim
  | _ :: _, [], _, _, _, _, h => h.elim
  | _ :: _, _ :: _, [], _, _, _, h => h.elim
  | t :: ts, v :: vs, d :: ds, ps, hr, hlt, h => by
    obtain ⟨p, q, hp, hq, rfl⟩ := h
    simp only [List.all_cons, Bool.and_eq_true, decide_eq_true_eq] at hr
    exact ⟨p, q, Below.trod hl hr.1.1 hr.1.2 hp hb (fun x hx => hlt x (by simp [hx])), trodAll_kept hl hb (by simpa using hr.2) (fun x hx => hlt x (by simp [hx])) hq, rfl⟩

/-- A law's last step: it answered true, and nothing old has turned. -/
theorem law_post (hl : laidOutB P = true) {fn : Func} {s : ChangeSpec} {W W' : World} {args : Array Value} {ds gs : List (DataW H)} {before : List MemPlace} {b : TypeId} (hb4 : P.underlying b = some .bool)
    (hW : DataW.Whole enc P fn.params.toList s.vars false W args.toList ds gs before) (hv : s.vars = []) (hr : fn.resultTypes = #[b])
    (hp : fn.params.toList.all (fun t => P.readableRec t && decide (t < P.types.size)) = true)
    (hf : s.fn H ds = { results := [.lit (.bool true)], args := ds }) (hb : Below W.heap.size W W') :
    s.post enc P fn false true false false W args (.bool true) W' := by
  have hlt := hW.lt
  have hW' := hW
  obtain ⟨p, q, hA, hV, rfl, _, _⟩ := hW'
  have hV' := hV
  rw [hv] at hV'
  obtain ⟨rfl, rfl⟩ := trodVars_none hV'
  refine ⟨ds, [], p ++ [], [], p, [], hW, ?_, ?_, ?_, hb.frame _, fun h => by cases h⟩
  · rw [List.append_nil, hf, hr]
    exact trodAll_cons_mk (shut_bool hb4 _) trodAll_mk0
  · rw [List.append_nil, hf]
    exact trodAll_kept hl hb hp (fun x hx => by simpa using hlt x (by simp [hx])) hA
  · rw [List.append_nil, hf, hv]
    rfl

theorem lt_of_cell {w : World} {a : Addr} {u : Value} (h : w.cell? a = some u) : a.block < w.heap.size := by
  rcases Nat.lt_or_ge a.block w.heap.size with hlt | hge
  · exact hlt
  · rw [World.cell?, Array.getElem?_eq_none hge] at h
    simp at h

/-- A slice of integers that came in, not negative and below m: it reads as a list of numbers. -/
theorem open_nats {W : World} {t e : TypeId} {k : IntKind} {r : Reach} {b0 m : Nat} {v : Value} {d : DataW H} {ps : List MemPlace} (ht : P.underlying t = some (.slice e)) (he : P.underlying e = some (.int k)) (hc : P.cellsOf e = 1)
    (hm : ∀ z, (Lit.int k z).wf = true → 0 ≤ z ∧ z < m) (hval : Value.okWide P W r b0 t v) (hd : DataW.Trod enc P W 0 (fun _ => true) true t v d ps) :
    ∃ (A : Option Addr) (l : List Nat) (c : Nat), v = .slice A l.length c ∧ Rd W W.heap.size A (l.map fun x : Nat => Value.int k (x : Int)) ∧ (∀ x ∈ l, x < m) ∧ l.length ≤ maxLen := by
  obtain ⟨a0, len, cap, rfl⟩ := okWide_slice ht hval
  obtain ⟨fuel, hf⟩ := hd
  rcases open_ints ht he hc hf with ⟨hcs, _⟩ | ⟨a, len', cap', zs, hcs, _, h1, h2, hz, _, hcell, hwf⟩
  · simp [Value.cells] at hcs
    obtain ⟨rfl, rfl, rfl⟩ := hcs
    exact ⟨none, [], 0, rfl, by intro k u hu; simp at hu, by simp, by simp⟩
  · simp [Value.cells] at hcs
    obtain ⟨rfl, rfl, rfl⟩ := hcs
    simp at hz
    refine ⟨some a, (zs.take len).map Int.toNat, cap, by simp; omega, ?_, ?_, by simp; omega⟩
    · intro j u hu
      simp only [List.getElem?_map, Option.map_eq_some_iff] at hu
      obtain ⟨x, ⟨z, hz1, rfl⟩, rfl⟩ := hu
      have hj : j < len := by
        rcases Nat.lt_or_ge j len with h | h
        · exact h
        · rw [List.getElem?_eq_none (by simp; omega)] at hz1; cases hz1
      have hcj := hcell j (by omega)
      rw [List.getElem?_take, if_pos hj] at hz1
      rw [List.getD_eq_getElem?_getD, hz1, Option.getD_some] at hcj
      have hzw := hm z (hwf z (List.mem_of_getElem? hz1))
      refine ⟨a, rfl, ?_, ?_⟩
      · have := lt_of_cell hcj
        rwa [add_block] at this
      · rw [hcj]
        congr 2
        omega
    · intro x hx
      simp only [List.mem_map] at hx
      obtain ⟨z, hz1, rfl⟩ := hx
      have := hm z (hwf z (List.mem_of_mem_take hz1))
      omega
end

theorem wf_u8 (z : Int) (h : (Lit.int .u8 z).wf = true) : 0 ≤ z ∧ z < (256 : Nat) := by
  simp [Lit.wf, IntKind.min, IntKind.max, IntKind.signed, IntKind.bits] at h; omega
theorem wf_u32 (z : Int) (h : (Lit.int .u32 z).wf = true) : 0 ≤ z ∧ z < (4294967296 : Nat) := by
  simp [Lit.wf, IntKind.min, IntKind.max, IntKind.signed, IntKind.bits] at h; omega
theorem wf_i64 (z : Int) (h : (Lit.int .i64 z).wf = true) : -9223372036854775808 ≤ z ∧ z ≤ 9223372036854775807 := by
  simp [Lit.wf, IntKind.min, IntKind.max, IntKind.signed, IntKind.bits] at h; omega
set_option linter.unusedVariables false
open Go.ChangeShapes Go.WideShapes Go.ChangeAt Go.RowKit

theorem infoInt : (Try.prog.info? 3).map (fun i => (i.zero, i.size, i.bytes)) = some (some (.int .i64 0), 1, 8) := by kernel_rfl
def I64 (l : List Int) : List Value := l.map fun x : Int => Value.int .i64 x
theorem I64_len (l : List Int) : (I64 l).length = l.length := by simp [I64]
theorem I64_append (a b : List Int) : I64 (a ++ b) = I64 a ++ I64 b := by simp [I64]
theorem I64_at {l : List Int} {k : Nat} {x : Int} (h : l[k]? = some x) : (I64 l)[k]? = some (.int .i64 x) := by simp [I64, h]
theorem I64_one (l : List Int) : ∀ u ∈ I64 l, u.oneCell' = true := by
  intro u hu
  simp only [I64, List.mem_map] at hu
  obtain ⟨x, _, rfl⟩ := hu
  rfl
/-- A slice value that reads as ints. -/
structure Zs (w : World) (B : Nat) (l : List Int) (A : Option Addr) (c : Nat) : Prop where
  rd : Rd w B A (I64 l)
  nil : A = none → c = 0
  len : l.length ≤ c
  cap : c ≤ 9223372036854775807
theorem Zs.next {w w' : World} {l : List Int} {A : Option Addr} {c : Nat} (h : Zs w w.heap.size l A c) (hb : Below w.heap.size w w') : Zs w' w'.heap.size l A c := ⟨h.rd.next hb, h.nil, h.len, h.cap⟩
theorem Zs.drew {w : World} {l : List Int} {A : Option Addr} {c : Nat} (h : Zs w w.heap.size l A c) (q : Nat) : Zs (w.drewN q) (w.drewN q).heap.size l A c := h.next (below_drewN (Below.refl _ _) q)
theorem zs_of_own {w : World} {base n : Nat} {v : Value} {l : List Int} (h : w.ownsRow base 3 1 v n (I64 l)) : ∃ A c, v = .slice A n c ∧ n = l.length ∧ Zs w w.heap.size l A c := by
  have hn : l.length = n := by have := h.1; simpa [I64] using this
  rcases h.2 with ⟨rfl, h0⟩ | ⟨g, cap, cur, rfl, _, _, h2, h3, _⟩
  · subst h0
    have : l = [] := List.eq_nil_of_length_eq_zero hn
    subst this
    exact ⟨none, 0, rfl, rfl, ⟨by intro k u hu; simp [I64] at hu, fun _ => rfl, by simp, by omega⟩⟩
  · unfold maxLen at h3
    exact ⟨_, cap, rfl, hn.symm, ⟨Rd.of_own h, by simp, by omega, h3⟩⟩
theorem Zs.at {w : World} {B : Nat} {l : List Int} {A : Option Addr} {c k : Nat} {x : Int} (h : Zs w B l A c) (hx : l[k]? = some x) : ∃ ad, A = some ad ∧ ad.block < B ∧ w.cell? (ad.add k) = some (.int .i64 x) := h.rd k _ (I64_at hx)
theorem zs_lit (w : World) (cs : Array Value) (l : List Int) (n : Nat) (h : cs.toList = I64 l) (hn : n = l.length) (h1 : n ≤ 1000) : Zs (w.alloc (.cells cs 3)) (w.alloc (.cells cs 3)).heap.size l (some ⟨w.heap.size, 0, none⟩) n :=
  ⟨by rw [← h]; exact rd_lit w cs _, by simp, by omega, by omega⟩
section
variable {H : Type} {enc : TypeId × Value → H} {P : Program}
/-- A slice of ints that came in: it reads as a list of numbers that fit an int; its capacity, and what that weighs. -/
theorem open_ints_full {W : World} {t e : TypeId} {r : Reach} {b0 : Nat} {v : Value} {d : DataW H} {ps : List MemPlace} (ht : P.underlying t = some (.slice e)) (he : P.underlying e = some (.int .i64)) (hc : P.cellsOf e = 1)
    (hval : Value.okWide P W r b0 t v) (hd : DataW.Trod enc P W 0 (fun _ => true) true t v d ps) :
    ∃ (A : Option Addr) (l : List Int) (c : Nat), v = .slice A l.length c ∧ Rd W W.heap.size A (I64 l) ∧ (∀ x ∈ l, In64 x) ∧ l.length ≤ c ∧ c ≤ maxLen ∧ (A = none → c = 0) ∧
      ∀ b, (d.weights P t).all (· ≤ b) = true → c * P.bytesOf e ≤ b := by
  obtain ⟨a0, len, cap, rfl⟩ := okWide_slice ht hval
  obtain ⟨fuel, hf⟩ := hd
  rcases open_ints ht he hc hf with ⟨hcs, _⟩ | ⟨a, len', cap', zs, hcs, _, h1, h2, hz, hx, hcell, hwf⟩
  · simp [Value.cells] at hcs
    obtain ⟨rfl, rfl, rfl⟩ := hcs
    exact ⟨none, [], 0, rfl, by intro k u hu; simp [I64] at hu, by simp, by simp, by simp, by simp, by simp⟩
  · simp [Value.cells] at hcs
    obtain ⟨rfl, rfl, rfl⟩ := hcs
    simp at hz
    refine ⟨some a, zs.take len, cap, by simp; omega, ?_, ?_, by simp; omega, h2, by simp, ?_⟩
    · intro j u hu
      simp only [I64, List.getElem?_map, Option.map_eq_some_iff] at hu
      obtain ⟨z, hz1, rfl⟩ := hu
      have hj : j < len := by
        rcases Nat.lt_or_ge j len with h | h
        · exact h
        · rw [List.getElem?_eq_none (by simp; omega)] at hz1; cases hz1
      have hcj := hcell j (by omega)
      rw [List.getElem?_take, if_pos hj] at hz1
      rw [List.getD_eq_getElem?_getD, hz1, Option.getD_some] at hcj
      refine ⟨a, rfl, ?_, hcj⟩
      have := lt_of_cell hcj
      rwa [add_block] at this
    · intro x hx1
      exact wf_i64 x (hwf x (List.mem_of_mem_take hx1))
    · intro b hb
      obtain ⟨rfl, _⟩ := Prod.mk.inj hx
      simp only [DataW.weights, ht, List.all_cons, Bool.and_eq_true, decide_eq_true_eq] at hb
      have h3 := hb.1
      simp [lits] at h3
      have h4 : min len zs.length + (zs.length - len) = cap := by omega
      rw [h4] at h3
      exact h3
end
set_option linter.unusedVariables false
open Go.ChangeShapes Go.WideShapes Go.ChangeAt Go.RowKit

/-- A slice value that reads as bytes: where it lies, and its capacity. -/
structure Bs (w : World) (B : Nat) (s : List Nat) (A : Option Addr) (c : Nat) : Prop where
  rd : Rd w B A (U8 s)
  nil : A = none → c = 0
  len : s.length ≤ c
  cap : c ≤ 9223372036854775807
  lt : ∀ x ∈ s, x < 256
theorem Bs.next {w w' : World} {s : List Nat} {A : Option Addr} {c : Nat} (h : Bs w w.heap.size s A c) (hb : Below w.heap.size w w') : Bs w' w'.heap.size s A c := ⟨h.rd.next hb, h.nil, h.len, h.cap, h.lt⟩
theorem Bs.below {w w' : World} {B : Nat} {s : List Nat} {A : Option Addr} {c : Nat} (h : Bs w B s A c) (hb : Below B w w') : Bs w' B s A c := ⟨h.rd.below hb, h.nil, h.len, h.cap, h.lt⟩
theorem Bs.more {w : World} {B B' : Nat} {s : List Nat} {A : Option Addr} {c : Nat} (h : Bs w B s A c) (hB : B ≤ B') : Bs w B' s A c := ⟨h.rd.more hB, h.nil, h.len, h.cap, h.lt⟩
theorem bs_of_own {w : World} {base n : Nat} {v : Value} {s : List Nat} (h : w.ownsRow base 5 1 v n (U8 s)) (hs : ∀ x ∈ s, x < 256) : ∃ A c, v = .slice A n c ∧ Bs w w.heap.size s A c := by
  have hn : s.length = n := by have := h.1; simpa [U8] using this
  rcases h.2 with ⟨rfl, h0⟩ | ⟨g, cap, cur, rfl, _, _, h2, h3, _⟩
  · subst h0
    have : s = [] := List.eq_nil_of_length_eq_zero hn
    subst this
    exact ⟨none, 0, rfl, ⟨by intro k u hu; simp [U8] at hu, fun _ => rfl, by simp, by omega, by simp⟩⟩
  · unfold maxLen at h3
    exact ⟨_, cap, rfl, ⟨Rd.of_own h, by simp, by omega, h3, hs⟩⟩
end Go.Proofs.Ytaldpioahnbkgaa
