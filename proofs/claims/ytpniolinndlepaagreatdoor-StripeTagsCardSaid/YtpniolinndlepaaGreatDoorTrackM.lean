/-
  Packages parity, track and swipe, plainly.
-/
import Derived.Test.YtpniolinndlepaaGreatDoorBase
namespace Go.Proofs.YtpniolinndlepaaGreatDoor

def bit (b : Bool) : Nat := if b = true then 1 else 0
theorem bit_le (b : Bool) : bit b ≤ 1 := by unfold bit; split <;> omega
/-- The number that the k bits from place i on are, the highest first; what lies behind the end is 0. -/
def accB (l : List Bool) (i : Nat) : Nat → Nat
  | 0 => 0
  | k + 1 => 2 * accB l i k + bit (l.getD (i + k) false)
theorem accB_lt (l : List Bool) (i : Nat) : ∀ k, accB l i k < 2 ^ k
  | 0 => by simp [accB]
  | k + 1 => by
    have h := accB_lt l i k
    have hb := bit_le (l.getD (i + k) false)
    rw [accB, Nat.pow_succ]
    omega
/-- The first m bytes of bits. -/
def packN (l : List Bool) (m : Nat) : List Nat := (List.range m).map fun j => accB l (8 * j) 8
theorem packN_len (l : List Bool) (m : Nat) : (packN l m).length = m := by simp [packN]
theorem packN_succ (l : List Bool) (m : Nat) : packN l (m + 1) = packN l m ++ [accB l (8 * m) 8] := by simp [packN, List.range_succ]
def packL (l : List Bool) : List Nat := packN l ((l.length + 7) / 8)
theorem packL_len (l : List Bool) : (packL l).length = (l.length + 7) / 8 := packN_len _ _
theorem packL_lt (l : List Bool) : ∀ x ∈ packL l, x < 256 := by
  intro x hx
  simp only [packL, packN, List.mem_map] at hx
  obtain ⟨j, _, rfl⟩ := hx
  exact accB_lt l (8 * j) 8
/-- The first k bits of a byte, the highest first. -/
def bitsOf (x k : Nat) : List Bool := (List.range k).map fun j => x / 2 ^ (7 - j) % 2 == 1
theorem bitsOf_len (x k : Nat) : (bitsOf x k).length = k := by simp [bitsOf]
theorem bitsOf_succ (x k : Nat) : bitsOf x (k + 1) = bitsOf x k ++ [x / 2 ^ (7 - k) % 2 == 1] := by simp [bitsOf, List.range_succ]
def unpackL (b : List Nat) : List Bool := b.flatMap fun x => bitsOf x 8
theorem unpackL_cons (x : Nat) (b : List Nat) : unpackL (x :: b) = bitsOf x 8 ++ unpackL b := by simp [unpackL]
theorem unpackL_len : ∀ b : List Nat, (unpackL b).length = 8 * b.length
  | [] => rfl
  | x :: b => by rw [unpackL_cons, List.length_append, bitsOf_len, unpackL_len b, List.length_cons]; omega
theorem unpackL_snoc (b : List Nat) (x : Nat) : unpackL (b ++ [x]) = unpackL b ++ bitsOf x 8 := by simp [unpackL]
theorem unpackL_take {b : List Nat} {k x : Nat} (h : b[k]? = some x) : unpackL (b.take (k + 1)) = unpackL (b.take k) ++ bitsOf x 8 := by
  rw [List.take_add_one, h]; exact unpackL_snoc _ _
theorem bitsOf_at (x : Nat) : bitsOf x 8 = [x / 128 % 2 == 1, x / 64 % 2 == 1, x / 32 % 2 == 1, x / 16 % 2 == 1, x / 8 % 2 == 1, x / 4 % 2 == 1, x / 2 % 2 == 1, x / 1 % 2 == 1] := rfl
theorem bit_of (x : Nat) : bit (x % 2 == 1) = x % 2 := by
  unfold bit
  by_cases h : x % 2 = 1
  · rw [if_pos (by rw [beq_iff_eq]; exact h), h]
  · rw [if_neg (by rw [beq_iff_eq]; exact h)]; omega
theorem accB_byte (x : Nat) (hx : x < 256) (l : List Bool) : accB (bitsOf x 8 ++ l) 0 8 = x := by
  rw [bitsOf_at]
  simp only [accB, List.cons_append, List.nil_append, List.getD_cons_zero, List.getD_cons_succ, Nat.zero_add, bit_of]
  omega
theorem pack_unpack_at : ∀ (b : List Nat), (∀ x ∈ b, x < 256) → ∀ j x, b[j]? = some x → accB (unpackL b) (8 * j) 8 = x
  | [], _, j, x, h => by simp at h
  | y :: b, hb, 0, x, h => by
    simp at h
    subst h
    rw [unpackL_cons]
    exact accB_byte y (hb y (by simp)) _
  | y :: b, hb, j + 1, x, h => by
    have ih := pack_unpack_at b (fun z hz => hb z (by simp [hz])) j x (by simpa using h)
    rw [← ih, unpackL_cons]
    have hshift : ∀ k, accB (bitsOf y 8 ++ unpackL b) (8 * (j + 1)) k = accB (unpackL b) (8 * j) k := by
      intro k
      induction k with
      | zero => rfl
      | succ k ihk =>
        rw [accB, accB, ihk, List.getD_eq_getElem?_getD, List.getD_eq_getElem?_getD, List.getElem?_append_right (by rw [bitsOf_len]; omega), bitsOf_len]
        congr 4
        omega
    exact hshift 8
theorem pack_unpack (b : List Nat) (hb : ∀ x ∈ b, x < 256) : packL (unpackL b) = b := by
  apply List.ext_getElem?
  intro j
  rw [packL, unpackL_len, show (8 * b.length + 7) / 8 = b.length by omega]
  by_cases h : j < b.length
  · obtain ⟨x, hx⟩ : ∃ x, b[j]? = some x := ⟨_, List.getElem?_eq_getElem h⟩
    rw [packN, List.getElem?_map, List.getElem?_range h, hx, Option.map_some, pack_unpack_at b hb j x hx]
  · rw [List.getElem?_eq_none (by rw [packN_len]; omega), List.getElem?_eq_none (by omega)]

/-- How many of the five lowest bits are 1. -/
def ones5 (n : Nat) : Nat := n % 2 + n / 2 % 2 + n / 4 % 2 + n / 8 % 2 + n / 16 % 2
theorem ones5_step {n : Nat} (h : n < 32) : ones5 n = n % 2 + ones5 (n / 2) := by unfold ones5; omega
theorem ones5_le (n : Nat) : ones5 n ≤ 5 := by unfold ones5; omega
def isV (v : Int) : Bool := decide (0 ≤ v) && decide (v ≤ 15)
def isC (c : Int) : Bool := decide (0 ≤ c) && decide (c ≤ 31)
theorem isV_iff (v : Int) : isV v = true ↔ 0 ≤ v ∧ v ≤ 15 := by simp [isV]
theorem isC_iff (c : Int) : isC c = true ↔ 0 ≤ c ∧ c ≤ 31 := by simp [isC]
def charV (v : Int) : Int := if isV v = true then (if ones5 v.toNat % 2 = 0 then v + 16 else v) else 0
def charE (v : Int) : Int := if isV v = true then 0 else 1
def valV (c : Int) : Int := if isC c = true then (if ones5 c.toNat % 2 = 0 then 0 else c % 16) else 0
def valE (c : Int) : Int := if isC c = true then (if ones5 c.toNat % 2 = 0 then 3 else 0) else 1
/-- Five bits. -/
structure B5 where
  b0 : Bool
  b1 : Bool
  b2 : Bool
  b3 : Bool
  b4 : Bool
deriving DecidableEq
def bitB (n i : Nat) : Bool := n / 2 ^ i % 2 == 1
def noB : B5 := ⟨false, false, false, false, false⟩
def bitsB (c : Int) : B5 := if isC c = true then ⟨bitB c.toNat 0, bitB c.toNat 1, bitB c.toNat 2, bitB c.toNat 3, bitB c.toNat 4⟩ else noB
def bitsE (c : Int) : Int := if isC c = true then 0 else 1
def ofB (b : B5) : Int := ((b.b0.toNat + 2 * b.b1.toNat + 4 * b.b2.toNat + 8 * b.b3.toNat + 16 * b.b4.toNat : Nat) : Int)
theorem of_facts (b : B5) : isC (ofB b) = true ∧ bitsB (ofB b) = b ∧ bitsE (ofB b) = 0 := by
  obtain ⟨b0, b1, b2, b3, b4⟩ := b
  cases b0 <;> cases b1 <;> cases b2 <;> cases b3 <;> cases b4 <;> decide
/-- Are all of them values? -/
def sumOk (l : List Int) : Bool := l.all isV
def sumX (l : List Int) : Nat := l.foldl (fun n x => n ^^^ x.toNat) 0
def sumV (l : List Int) : Int := if sumOk l = true then (sumX l : Int) else 0
def sumE (l : List Int) : Int := if sumOk l = true then 0 else 1
theorem sumX_snoc (l : List Int) (x : Int) : sumX (l ++ [x]) = sumX l ^^^ x.toNat := by simp [sumX, List.foldl_append]
theorem take_snoc {l : List Int} {k : Nat} {x : Int} (h : l[k]? = some x) : l.take (k + 1) = l.take k ++ [x] := by
  rw [List.take_add_one, h]; rfl
theorem sumX_take {l : List Int} {k : Nat} {x : Int} (h : l[k]? = some x) : sumX (l.take (k + 1)) = sumX (l.take k) ^^^ x.toNat := by rw [take_snoc h, sumX_snoc]
theorem foldl_xor (l : List Int) : ∀ a : Nat, l.foldl (fun n x => n ^^^ x.toNat) a = a ^^^ sumX l := by
  induction l with
  | nil => intro a; simp [sumX]
  | cons y l ih =>
    intro a
    show l.foldl _ (a ^^^ y.toNat) = a ^^^ l.foldl _ (0 ^^^ y.toNat)
    rw [ih, ih, Nat.zero_xor, Nat.xor_assoc]
theorem sumX_cons (y : Int) (l : List Int) : sumX (y :: l) = y.toNat ^^^ sumX l := by
  show l.foldl _ (0 ^^^ y.toNat) = _
  rw [foldl_xor, Nat.zero_xor]
theorem sumX_lt (l : List Int) (h : sumOk l = true) : sumX l < 16 := by
  induction l with
  | nil => decide
  | cons y l ih =>
    rw [sumOk, List.all_cons, Bool.and_eq_true] at h
    rw [sumX_cons]
    have := (isV_iff y).1 h.1
    exact Nat.xor_lt_two_pow (n := 4) (by omega) (ih h.2)
theorem sumOk_take {l : List Int} {k : Nat} {x : Int} (hx : l[k]? = some x) : sumOk (l.take (k + 1)) = (sumOk (l.take k) && isV x) := by
  rw [take_snoc hx, sumOk, sumOk, List.all_append]; simp

def charN (v : Nat) : Nat := if ones5 v % 2 = 0 then v + 16 else v
/-- The five bits of a value's character, the lowest first. -/
def cBits (v : Nat) : List Bool := [charN v % 2 == 1, charN v / 2 % 2 == 1, charN v / 4 % 2 == 1, charN v / 8 % 2 == 1, charN v / 16 % 2 == 1]
theorem cBits_len (v : Nat) : (cBits v).length = 5 := rfl
def charsL (vs : List Nat) : List Bool := vs.flatMap cBits
theorem charsL_cons (v : Nat) (vs : List Nat) : charsL (v :: vs) = cBits v ++ charsL vs := by simp [charsL]
theorem charsL_append (a b : List Nat) : charsL (a ++ b) = charsL a ++ charsL b := by simp [charsL]
theorem charsL_len : ∀ vs : List Nat, (charsL vs).length = 5 * vs.length
  | [] => rfl
  | v :: vs => by rw [charsL_cons, List.length_append, cBits_len, charsL_len vs, List.length_cons]; omega
def xorL (vs : List Nat) : Nat := vs.foldl (fun n x => n ^^^ x) 0
theorem foldl_xorN_lt : ∀ (vs : List Nat) (a : Nat), a < 16 → (∀ v ∈ vs, v < 16) → vs.foldl (fun n x => n ^^^ x) a < 16
  | [], a, ha, _ => ha
  | v :: vs, a, ha, h => foldl_xorN_lt vs (a ^^^ v) (Nat.xor_lt_two_pow (n := 4) ha (h v (by simp))) (fun x hx => h x (by simp [hx]))
theorem xorL_lt (vs : List Nat) (h : ∀ v ∈ vs, v < 16) : xorL vs < 16 := foldl_xorN_lt vs 0 (by omega) h
def putVals (d : List Nat) : List Nat := 11 :: (d ++ [15])
def trackV (d : List Nat) : List Nat := putVals d ++ [xorL (putVals d)]
theorem trackV_len (d : List Nat) : (trackV d).length = d.length + 3 := by simp [trackV, putVals]
def digitsOk (d : List Nat) : Bool := d.all fun x => decide (x ≤ 9)
def putE (d : List Nat) : Int := if 77 < d.length then 21 else if digitsOk d = true then 0 else 7
def putL (d : List Nat) : List Nat := if putE d = 0 then packL (charsL (trackV d)) else []
theorem putE_ok {d : List Nat} (h : putE d = 0) : d.length ≤ 77 ∧ digitsOk d = true := by
  unfold putE at h
  split at h
  · cases h
  · split at h
    · exact ⟨by omega, by assumption⟩
    · cases h
theorem putE_of {d : List Nat} (h1 : d.length ≤ 77) (h2 : digitsOk d = true) : putE d = 0 := by rw [putE, if_neg (by omega), if_pos h2]
theorem put_len {d : List Nat} (h : putE d = 0) : (putL d).length = (5 * d.length + 22) / 8 := by
  rw [putL, if_pos h, packL_len, charsL_len, trackV_len]
  omega
/-- The character at a place of bits. -/
def chAt (l : List Bool) (i : Nat) : Nat := bit (l.getD i false) + 2 * bit (l.getD (i + 1) false) + 4 * bit (l.getD (i + 2) false) + 8 * bit (l.getD (i + 3) false) + 16 * bit (l.getD (i + 4) false)
theorem chAt_lt (l : List Bool) (i : Nat) : chAt l i < 32 := by
  have := bit_le (l.getD i false)
  have := bit_le (l.getD (i + 1) false)
  have := bit_le (l.getD (i + 2) false)
  have := bit_le (l.getD (i + 3) false)
  have := bit_le (l.getD (i + 4) false)
  unfold chAt
  omega
theorem charN_facts : ∀ v : Nat, v < 16 → charN v < 32 ∧ ones5 (charN v) % 2 = 1 ∧ charN v % 16 = v := by decide
theorem char_of_ch : ∀ c : Nat, c < 32 → ones5 c % 2 = 1 → charN (c % 16) = c := by decide
theorem chAt_cBits {v : Nat} (hv : v < 16) (l : List Bool) : chAt (cBits v ++ l) 0 = charN v := by
  have h := (charN_facts v hv).1
  unfold chAt cBits
  simp only [List.cons_append, List.nil_append, List.getD_cons_zero, List.getD_cons_succ, bit_of, Nat.zero_add]
  omega
/-- Five bits are those of the character that they are. -/
theorem take_ch {l : List Bool} {i : Nat} (h : i + 5 ≤ l.length) : l.take (i + 5) = l.take i ++ [chAt l i % 2 == 1, chAt l i / 2 % 2 == 1, chAt l i / 4 % 2 == 1, chAt l i / 8 % 2 == 1, chAt l i / 16 % 2 == 1] := by
  obtain ⟨b0, h0⟩ : ∃ b, l[i]? = some b := ⟨_, List.getElem?_eq_getElem (by omega)⟩
  obtain ⟨b1, h1⟩ : ∃ b, l[i + 1]? = some b := ⟨_, List.getElem?_eq_getElem (by omega)⟩
  obtain ⟨b2, h2⟩ : ∃ b, l[i + 2]? = some b := ⟨_, List.getElem?_eq_getElem (by omega)⟩
  obtain ⟨b3, h3⟩ : ∃ b, l[i + 3]? = some b := ⟨_, List.getElem?_eq_getElem (by omega)⟩
  obtain ⟨b4, h4⟩ : ∃ b, l[i + 4]? = some b := ⟨_, List.getElem?_eq_getElem (by omega)⟩
  have e : chAt l i = bit b0 + 2 * bit b1 + 4 * bit b2 + 8 * bit b3 + 16 * bit b4 := by
    simp only [chAt, List.getD_eq_getElem?_getD, h0, h1, h2, h3, h4, Option.getD_some]
  rw [e, show i + 5 = i + 4 + 1 by omega, List.take_add_one, h4, List.take_add_one, h3, List.take_add_one, h2, List.take_add_one, h1, List.take_add_one, h0]
  simp only [Option.toList_some, List.append_assoc, List.cons_append, List.nil_append]
  congr 1
  cases b0 <;> cases b1 <;> cases b2 <;> cases b3 <;> cases b4 <;> decide
/-- Characters are read from place i on, up to that of 15: the digits and the place behind it, or what is wrong. -/
def scanL (l : List Bool) : Nat → Nat → List Nat → Except Int (List Nat × Nat)
  | 0, _, _ => .error 5
  | f + 1, i, out =>
    if l.length < i + 5 then .error 5
    else if ones5 (chAt l i) % 2 = 0 then .error 3
    else if 9 < chAt l i % 16 ∧ chAt l i % 16 ≠ 15 then .error 7
    else if chAt l i % 16 = 15 then .ok (out, i + 5)
    else scanL l f (i + 5) (out ++ [chAt l i % 16])
/-- What comes behind that of 15. -/
def lastL (b : List Nat) (l : List Bool) (out : List Nat) (i : Nat) : Except Int (List Nat) :=
  if l.length < i + 5 then .error 5
  else if ones5 (chAt l i) % 2 = 0 then .error 3
  else if chAt l i % 16 ≠ xorL (putVals out) then .error 6
  else if 77 < out.length then .error 21
  else if packL (l.take (i + 5)) ≠ b then .error 14
  else .ok out
def getX (b : List Nat) : Except Int (List Nat) :=
  if b.length < 2 ∨ 50 < b.length then .error 14
  else if chAt (unpackL b) 0 ≠ 11 then .error 4
  else match scanL (unpackL b) (unpackL b).length 5 [] with
    | .error e => .error e
    | .ok (out, i) => lastL b (unpackL b) out i
def getE (b : List Nat) : Int := match getX b with | .error e => e | .ok _ => 0
def getL (b : List Nat) : List Nat := match getX b with | .error _ => [] | .ok d => d

theorem accB_bit (l : List Bool) (i k : Nat) (hk : k < 8) : accB l i 8 / 2 ^ (7 - k) % 2 = bit (l.getD (i + k) false) := by
  have b0 := bit_le (l.getD (i + 0) false)
  have b1 := bit_le (l.getD (i + 1) false)
  have b2 := bit_le (l.getD (i + 2) false)
  have b3 := bit_le (l.getD (i + 3) false)
  have b4 := bit_le (l.getD (i + 4) false)
  have b5 := bit_le (l.getD (i + 5) false)
  have b6 := bit_le (l.getD (i + 6) false)
  have b7 := bit_le (l.getD (i + 7) false)
  simp only [accB]
  rcases (show k = 0 ∨ k = 1 ∨ k = 2 ∨ k = 3 ∨ k = 4 ∨ k = 5 ∨ k = 6 ∨ k = 7 by omega) with rfl | rfl | rfl | rfl | rfl | rfl | rfl | rfl <;> simp only [Nat.reduceSub, Nat.reducePow] <;> omega
theorem bitsOf_getD (x k : Nat) (hk : k < 8) : (bitsOf x 8).getD k false = (x / 2 ^ (7 - k) % 2 == 1) := by
  rw [bitsOf, List.getD_eq_getElem?_getD, List.getElem?_map, List.getElem?_range hk]; rfl
theorem unpack_getD : ∀ (b : List Nat) (j k : Nat), k < 8 → (unpackL b).getD (8 * j + k) false = (b.getD j 0 / 2 ^ (7 - k) % 2 == 1)
  | [], j, k, _ => by simp [unpackL]
  | x :: b, 0, k, hk => by
    rw [unpackL_cons, List.getD_eq_getElem?_getD, List.getElem?_append_left (by rw [bitsOf_len]; omega), ← List.getD_eq_getElem?_getD, Nat.mul_zero, Nat.zero_add, bitsOf_getD x k hk]
    rfl
  | x :: b, j + 1, k, hk => by
    have ih := unpack_getD b j k hk
    rw [unpackL_cons, List.getD_eq_getElem?_getD, List.getElem?_append_right (by rw [bitsOf_len]; omega), bitsOf_len, show 8 * (j + 1) + k - 8 = 8 * j + k by omega, ← List.getD_eq_getElem?_getD, ih]
    rfl
theorem packL_getD (l : List Bool) (j : Nat) : (packL l).getD j 0 = if j < (l.length + 7) / 8 then accB l (8 * j) 8 else 0 := by
  rw [packL, packN, List.getD_eq_getElem?_getD, List.getElem?_map]
  by_cases h : j < (l.length + 7) / 8
  · rw [List.getElem?_range h, if_pos h]; rfl
  · rw [List.getElem?_eq_none (by simp; omega), if_neg h]; rfl
/-- Bits that are packed read as they were, and behind them as 0. -/
theorem unpack_pack_getD (l : List Bool) (i : Nat) : (unpackL (packL l)).getD i false = l.getD i false := by
  have e : i = 8 * (i / 8) + i % 8 := by omega
  have hk : i % 8 < 8 := by omega
  generalize hj : i / 8 = j at e
  generalize i % 8 = k at e hk
  subst e
  rw [unpack_getD _ j k hk, packL_getD]
  by_cases h : j < (l.length + 7) / 8
  · rw [if_pos h, accB_bit l (8 * j) k hk]
    cases l.getD (8 * j + k) false <;> rfl
  · rw [if_neg h, List.getD_eq_getElem?_getD, List.getElem?_eq_none (by omega)]
    simp
theorem unpack_pack_take (l : List Bool) : (unpackL (packL l)).take l.length = l := by
  apply List.ext_getElem?
  intro i
  by_cases h : i < l.length
  · rw [List.getElem?_take, if_pos h]
    have h2 : i < (unpackL (packL l)).length := by rw [unpackL_len, packL_len]; omega
    have := unpack_pack_getD l i
    rw [List.getD_eq_getElem?_getD, List.getD_eq_getElem?_getD, List.getElem?_eq_getElem h, List.getElem?_eq_getElem h2] at this
    rw [List.getElem?_eq_getElem h, List.getElem?_eq_getElem h2]
    simpa using this
  · rw [List.getElem?_eq_none (by simp; omega), List.getElem?_eq_none (by omega)]
theorem chAt_unpack (l : List Bool) (i : Nat) : chAt (unpackL (packL l)) i = chAt l i := by
  unfold chAt
  simp only [unpack_pack_getD]
/-- The character at the place of a value. -/
theorem chAt_chars : ∀ (vs : List Nat), (∀ v ∈ vs, v < 16) → ∀ k v, vs[k]? = some v → chAt (charsL vs) (5 * k) = charN v
  | [], _, k, v, h => by simp at h
  | x :: vs, hv, 0, v, h => by
    simp at h
    subst h
    rw [charsL_cons, Nat.mul_zero]
    exact chAt_cBits (hv x (by simp)) _
  | x :: vs, hv, k + 1, v, h => by
    have ih := chAt_chars vs (fun y hy => hv y (by simp [hy])) k v (by simpa using h)
    rw [← ih, charsL_cons]
    have hs : ∀ j, (cBits x ++ charsL vs).getD (5 * (k + 1) + j) false = (charsL vs).getD (5 * k + j) false := by
      intro j
      rw [List.getD_eq_getElem?_getD, List.getD_eq_getElem?_getD, List.getElem?_append_right (by rw [cBits_len]; omega), cBits_len]
      congr 2
      omega
    unfold chAt
    rw [hs 1, hs 2, hs 3, hs 4, ← Nat.add_zero (5 * (k + 1)), hs 0]
    rfl
theorem vals_lt {d : List Nat} (h : digitsOk d = true) : ∀ v ∈ putVals d, v < 16 := by
  intro v hv
  simp only [putVals, List.mem_cons, List.mem_append, List.not_mem_nil, or_false] at hv
  rcases hv with rfl | h1 | rfl
  · omega
  · have := of_decide_eq_true (List.all_eq_true.1 h v h1); omega
  · omega
theorem track_lt {d : List Nat} (h : digitsOk d = true) : ∀ v ∈ trackV d, v < 16 := by
  intro v hv
  simp only [trackV, List.mem_append, List.mem_singleton] at hv
  rcases hv with h1 | rfl
  · exact vals_lt h v h1
  · exact xorL_lt _ (vals_lt h)
/-- Along a track the digits are read. -/
theorem scan_track {L : List Bool} {d : List Nat} (hd : digitsOk d = true) (hlen : 5 * (d.length + 3) ≤ L.length) (hch : ∀ i, chAt L i = chAt (charsL (trackV d)) i) :
    ∀ (f k : Nat), k ≤ d.length → d.length - k < f → scanL L f (5 * (k + 1)) (d.take k) = .ok (d, 5 * (d.length + 2)) := by
  intro f
  induction f with
  | zero => intro k _ h; omega
  | succ f ih =>
    intro k hk hf
    rw [scanL, if_neg (by omega)]
    by_cases hlt : k < d.length
    · obtain ⟨x, hx⟩ : ∃ x, d[k]? = some x := ⟨_, List.getElem?_eq_getElem hlt⟩
      have hx9 : x ≤ 9 := of_decide_eq_true (List.all_eq_true.1 hd x (List.mem_of_getElem? hx))
      have hv : (trackV d)[k + 1]? = some x := by
        rw [trackV, putVals, List.cons_append, List.getElem?_cons_succ, List.append_assoc, List.getElem?_append_left hlt, hx]
      have hc := charN_facts x (by omega)
      have e : chAt L (5 * (k + 1)) = charN x := by rw [hch, chAt_chars _ (track_lt hd) (k + 1) x hv]
      rw [e, if_neg (by omega), hc.2.2, if_neg (by omega), if_neg (by omega), show 5 * (k + 1) + 5 = 5 * (k + 1 + 1) by omega]
      have ht : d.take k ++ [x] = d.take (k + 1) := by rw [List.take_add_one, hx]; rfl
      rw [ht]
      exact ih (k + 1) hlt (by omega)
    · have ek : k = d.length := by omega
      subst ek
      have hv : (trackV d)[d.length + 1]? = some 15 := by
        rw [trackV, putVals, List.cons_append, List.getElem?_cons_succ, List.append_assoc, List.getElem?_append_right (Nat.le_refl _)]
        simp
      have e : chAt L (5 * (d.length + 1)) = charN 15 := by rw [hch, chAt_chars _ (track_lt hd) (d.length + 1) 15 hv]
      have hc := charN_facts 15 (by omega)
      rw [e, if_neg (by omega), hc.2.2, if_neg (by omega), if_pos rfl, List.take_length]
      rfl
theorem get_put {d : List Nat} (h : putE d = 0) : getX (putL d) = .ok d := by
  obtain ⟨h1, h2⟩ := putE_ok h
  have hl := put_len h
  have hL : (charsL (trackV d)).length = 5 * (d.length + 3) := by rw [charsL_len, trackV_len]
  rw [getX, if_neg (by rw [hl]; omega)]
  have hp : putL d = packL (charsL (trackV d)) := by rw [putL, if_pos h]
  have hul : (unpackL (putL d)).length = 8 * ((5 * d.length + 22) / 8) := by rw [unpackL_len, hl]
  have hch : ∀ i, chAt (unpackL (putL d)) i = chAt (charsL (trackV d)) i := by intro i; rw [hp]; exact chAt_unpack _ i
  have h11 : chAt (unpackL (putL d)) 0 = 11 := by
    rw [hch, show (0 : Nat) = 5 * 0 by rfl, chAt_chars _ (track_lt h2) 0 11 rfl]
    decide
  rw [if_neg (by rw [h11]; simp)]
  have hs := scan_track h2 (L := unpackL (putL d)) (by omega) hch (unpackL (putL d)).length 0 (by omega) (by omega)
  rw [show (5 : Nat) = 5 * (0 + 1) by rfl, show ([] : List Nat) = d.take 0 by rfl, hs]
  show lastL (putL d) (unpackL (putL d)) d (5 * (d.length + 2)) = .ok d
  have hv : (trackV d)[d.length + 2]? = some (xorL (putVals d)) := by
    rw [trackV, List.getElem?_append_right (by simp [putVals])]
    simp [putVals]
  have hx : xorL (putVals d) < 16 := xorL_lt _ (vals_lt h2)
  have hc := charN_facts _ hx
  have e : chAt (unpackL (putL d)) (5 * (d.length + 2)) = charN (xorL (putVals d)) := by rw [hch, chAt_chars _ (track_lt h2) (d.length + 2) _ hv]
  rw [lastL, if_neg (by omega), e, if_neg (by omega), hc.2.2, if_neg (by simp), if_neg (by omega), show 5 * (d.length + 2) + 5 = (charsL (trackV d)).length by omega, hp, unpack_pack_take, if_neg (by simp)]
theorem take_val {l : List Bool} {i : Nat} (h : i + 5 ≤ l.length) (hp : ones5 (chAt l i) % 2 = 1) : l.take (i + 5) = l.take i ++ cBits (chAt l i % 16) := by
  rw [take_ch h, cBits, char_of_ch _ (chAt_lt l i) hp]
theorem digits_snoc {out : List Nat} {x : Nat} (h : digitsOk out = true) (hx : x ≤ 9) : digitsOk (out ++ [x]) = true := by
  rw [digitsOk, List.all_append, Bool.and_eq_true]
  exact ⟨h, by simp [hx]⟩
theorem scan_sound {l : List Bool} {d : List Nat} {i' : Nat} : ∀ (f i : Nat) (out : List Nat), l.take i = charsL (11 :: out) → digitsOk out = true → scanL l f i out = .ok (d, i') →
    i' ≤ l.length ∧ l.take i' = charsL (putVals d) ∧ digitsOk d = true := by
  intro f
  induction f with
  | zero => intro i out _ _ h; cases h
  | succ f ih =>
    intro i out ht hd h
    rw [scanL] at h
    split at h
    · cases h
    · split at h
      · cases h
      · split at h
        · cases h
        · have hv := take_val (l := l) (i := i) (by omega) (by omega)
          split at h
          · rename_i h15
            cases h
            refine ⟨by omega, ?_, hd⟩
            rw [hv, ht, h15, putVals, ← List.cons_append, charsL_append]
            rfl
          · refine ih (i + 5) (out ++ [chAt l i % 16]) ?_ (digits_snoc hd (by omega)) h
            rw [hv, ht, ← List.cons_append, charsL_append]
            simp [charsL]
theorem put_get {b d : List Nat} (h : getX b = .ok d) : putE d = 0 ∧ putL d = b := by
  rw [getX] at h
  split at h
  · cases h
  · rename_i hlen
    split at h
    · cases h
    · rename_i h11
      have h11 : chAt (unpackL b) 0 = 11 := by simpa using h11
      have hul := unpackL_len b
      have ht5 : (unpackL b).take 5 = charsL [11] := by
        have := take_val (l := unpackL b) (i := 0) (by omega) (by rw [h11]; decide)
        rw [h11] at this
        simpa [charsL] using this
      split at h
      · cases h
      · rename_i out i hs
        obtain ⟨hi, ht, hd⟩ := scan_sound _ 5 [] ht5 rfl hs
        rw [lastL] at h
        split at h
        · cases h
        · split at h
          · cases h
          · split at h
            · cases h
            · split at h
              · cases h
              · split at h
                · cases h
                · rename_i hx h77 hpk
                  cases h
                  have hx : chAt (unpackL b) i % 16 = xorL (putVals d) := by simpa using hx
                  have hpk : packL ((unpackL b).take (i + 5)) = b := by simpa using hpk
                  have hv := take_val (l := unpackL b) (i := i) (by omega) (by omega)
                  have he := putE_of (d := d) (by omega) hd
                  refine ⟨he, ?_⟩
                  rw [putL, if_pos he, ← hpk, hv, ht, hx, trackV, charsL_append]
                  simp [charsL]
set_option linter.unusedVariables false

theorem accB_congr {a b : List Bool} {i : Nat} : ∀ k, (∀ q, q < k → a.getD (i + q) false = b.getD (i + q) false) → accB a i k = accB b i k
  | 0, _ => rfl
  | k + 1, h => by
    rw [accB, accB, accB_congr k (fun q hq => h q (by omega)), h k (by omega)]
theorem getD_take (l : List Bool) (n i : Nat) : (l.take n).getD i false = if i < n then l.getD i false else false := by
  rw [List.getD_eq_getElem?_getD, List.getElem?_take]
  split
  · rw [List.getD_eq_getElem?_getD]
  · rfl
theorem accB_take (l : List Bool) (i r : Nat) : ∀ s, accB (l.take (i + r)) i (r + s) = accB l i r * 2 ^ s
  | 0 => by
    rw [Nat.pow_zero, Nat.mul_one, Nat.add_zero]
    exact accB_congr r (fun q hq => by rw [getD_take, if_pos (by omega)])
  | s + 1 => by
    rw [← Nat.add_assoc, accB, accB_take l i r s, getD_take, if_neg (by omega), Nat.pow_succ]
    simp only [bit, Bool.false_eq_true, if_false]
    rw [Nat.mul_comm 2, Nat.mul_assoc]
    omega
theorem take_more {l : List Bool} {k i : Nat} (h : i ≠ k) : (l.take (k + 1)).getD i false = (l.take k).getD i false := by
  rw [getD_take, getD_take]
  by_cases h1 : i < k
  · rw [if_pos (by omega), if_pos h1]
  · rw [if_neg (by omega), if_neg h1]
/-- The byte that bit k goes into, ahead of it. -/
def pkOld (l : List Bool) (k : Nat) : Nat := accB l (8 * (k / 8)) (k % 8) * 2 ^ (8 - k % 8)
theorem pk_old (l : List Bool) (k m : Nat) (h : k / 8 < m) : (packN (l.take k) m)[k / 8]? = some (pkOld l k) := by
  have e : 8 * (k / 8) + k % 8 = k := by omega
  have := accB_take l (8 * (k / 8)) (k % 8) (8 - k % 8)
  rw [e, show k % 8 + (8 - k % 8) = 8 by omega] at this
  rw [packN, List.getElem?_map, List.getElem?_range h, Option.map_some, this]
  rfl
theorem pk_step (l : List Bool) (k m : Nat) (h : k / 8 < m) : packN (l.take (k + 1)) m = (packN (l.take k) m).set (k / 8) (pkOld l k + bit (l.getD k false) * 2 ^ (7 - k % 8)) := by
  have e : 8 * (k / 8) + (k % 8 + 1) = k + 1 := by omega
  have h1 := accB_take l (8 * (k / 8)) (k % 8 + 1) (7 - k % 8)
  rw [e, show k % 8 + 1 + (7 - k % 8) = 8 by omega] at h1
  apply List.ext_getElem?
  intro j
  by_cases hj : j < m
  · by_cases hjk : j = k / 8
    · subst hjk
      rw [List.getElem?_set_self (by rw [packN_len]; exact h), packN, List.getElem?_map, List.getElem?_range h, Option.map_some, h1, accB, show 8 * (k / 8) + k % 8 = k by omega, pkOld, show 8 - k % 8 = 7 - k % 8 + 1 by omega, Nat.pow_succ]
      congr 1
      rw [Nat.add_mul, Nat.mul_comm 2, Nat.mul_assoc, Nat.mul_comm 2]
    · rw [List.getElem?_set_ne (by omega), packN, packN, List.getElem?_map, List.getElem?_map, List.getElem?_range hj, Option.map_some, Option.map_some]
      congr 1
      exact accB_congr 8 (fun q hq => take_more (by omega))
  · rw [List.getElem?_eq_none (by rw [packN_len]; omega), List.getElem?_eq_none (by rw [List.length_set, packN_len]; omega)]
theorem pk_zero (l : List Bool) (m : Nat) : packN (l.take 0) m = List.replicate m 0 := by
  have h : ∀ i k, accB [] i k = 0 := by
    intro i k
    induction k with
    | zero => rfl
    | succ k ih => rw [accB, ih]; simp [bit]
  apply List.ext_getElem?
  intro j
  by_cases hj : j < m
  · rw [packN, List.getElem?_map, List.getElem?_range hj, Option.map_some, List.take_zero, h, List.getElem?_replicate, if_pos hj]
  · rw [List.getElem?_eq_none (by rw [packN_len]; omega), List.getElem?_eq_none (by simp; omega)]
theorem pk_bit (l : List Bool) (k : Nat) : ∃ r p, r < 8 ∧ p < 2 ^ r ∧ k % 8 = r ∧ pkOld l k = p * 2 ^ (8 - r) := ⟨k % 8, accB l (8 * (k / 8)) (k % 8), by omega, accB_lt _ _ _, rfl, rfl⟩
/-- The first k bits of b, as Unpack lays them into a row of zeros. -/
def upPart (b : List Nat) (k : Nat) : List Bool := (unpackL b).take k ++ List.replicate (8 * b.length - k) false
theorem upPart_len (b : List Nat) (k : Nat) (h : k ≤ 8 * b.length) : (upPart b k).length = 8 * b.length := by
  rw [upPart, List.length_append, List.length_take, List.length_replicate, unpackL_len]; omega
theorem upPart_zero (b : List Nat) : upPart b 0 = List.replicate (8 * b.length) false := by simp [upPart]
theorem upPart_all (b : List Nat) : upPart b (8 * b.length) = unpackL b := by
  rw [upPart, Nat.sub_self, List.replicate_zero, List.append_nil, ← unpackL_len, List.take_length]
theorem upPart_set (b : List Nat) (k : Nat) (h : k < 8 * b.length) : (upPart b k).set k ((unpackL b).getD k false) = upPart b (k + 1) := by
  have hl := unpackL_len b
  obtain ⟨x, hx⟩ : ∃ x, (unpackL b)[k]? = some x := ⟨_, List.getElem?_eq_getElem (by omega)⟩
  rw [upPart, List.set_append_right (h := by rw [List.length_take]; omega)]
  rw [List.length_take, Nat.min_eq_left (by omega), Nat.sub_self, show 8 * b.length - k = (8 * b.length - (k + 1)) + 1 by omega, List.replicate_succ, List.set_cons_zero, upPart, List.take_add_one, hx, List.getD_eq_getElem?_getD, hx]
  simp
theorem up_bit (b : List Nat) (k x : Nat) (hx : b[k / 8]? = some x) : (unpackL b).getD k false = (x / 2 ^ (7 - k % 8) % 2 == 1) := by
  have := unpack_getD b (k / 8) (k % 8) (by omega)
  rw [show 8 * (k / 8) + k % 8 = k by omega] at this
  have e : b.getD (k / 8) 0 = x := by rw [List.getD_eq_getElem?_getD, hx]; rfl
  rw [e] at this
  exact this

theorem scan_ne {l : List Bool} {e : Int} : ∀ (f i : Nat) (out : List Nat), scanL l f i out = .error e → e ≠ 0 := by
  intro f
  induction f with
  | zero => intro i out h; cases h; decide
  | succ f ih =>
    intro i out h
    rw [scanL] at h
    split at h
    · cases h; decide
    · split at h
      · cases h; decide
      · split at h
        · cases h; decide
        · split at h
          · cases h
          · exact ih _ _ h
theorem get_ne {b : List Nat} {e : Int} (h : getX b = .error e) : e ≠ 0 := by
  rw [getX] at h
  split at h
  · cases h; decide
  · split at h
    · cases h; decide
    · split at h
      · rename_i e' hs
        cases h
        exact scan_ne _ _ _ hs
      · rw [lastL] at h
        split at h
        · cases h; decide
        · split at h
          · cases h; decide
          · split at h
            · cases h; decide
            · split at h
              · cases h; decide
              · split at h
                · cases h; decide
                · cases h
theorem get_zero {b : List Nat} (h : getE b = 0) : getX b = .ok (getL b) := by
  unfold getE getL at *
  cases hx : getX b with
  | error e => rw [hx] at h; exact absurd h (get_ne hx)
  | ok d => rfl
theorem getE_len {b : List Nat} (h : getE b = 0) : b.length ≤ 50 := by
  have hx := get_zero h
  rw [getX] at hx
  split at hx
  · cases hx
  · omega
theorem putL_lt {d : List Nat} (h : putE d = 0) : ∀ x ∈ putL d, x < 256 := by
  rw [putL, if_pos h]; exact packL_lt _

def turnL (b : List Nat) : List Nat := packL (unpackL b).reverse
theorem turn_len (b : List Nat) : (turnL b).length = b.length := by rw [turnL, packL_len, List.length_reverse, unpackL_len]; omega
theorem unpack_pack8 (l : List Bool) (h : l.length % 8 = 0) : unpackL (packL l) = l := by
  have h1 := unpack_pack_take l
  rwa [List.take_of_length_le (by rw [unpackL_len, packL_len]; omega)] at h1
theorem turn_turn (b : List Nat) (hb : ∀ x ∈ b, x < 256) : turnL (turnL b) = b := by
  rw [turnL, turnL, unpack_pack8 _ (by rw [List.length_reverse, unpackL_len]; omega), List.reverse_reverse, pack_unpack b hb]
def readE (b : List Nat) : Int := if getE b = 0 then 0 else if getE (turnL b) = 0 then 0 else getE b
def readO (b : List Nat) : Bool := if getE b = 0 then false else if getE (turnL b) = 0 then true else false
def readL (b : List Nat) : List Nat := if getE b = 0 then getL b else if getE (turnL b) = 0 then getL (turnL b) else []
theorem read_first {b : List Nat} (h : getE b = 0) : readE b = 0 ∧ readO b = false ∧ readL b = getL b := by simp [readE, readO, readL, h]
theorem read_second {b : List Nat} (h : ¬ getE b = 0) (h2 : getE (turnL b) = 0) : readE b = 0 ∧ readO b = true ∧ readL b = getL (turnL b) := by simp [readE, readO, readL, h, h2]
theorem read_none {b : List Nat} (h : ¬ getE b = 0) (h2 : ¬ getE (turnL b) = 0) : readE b = getE b ∧ readO b = false ∧ readL b = [] := by simp [readE, readO, readL, h, h2]

/-- The row of bits behind k swaps. -/
def revP (l : List Bool) (k : Nat) : List Bool := (List.range l.length).map fun j => if j < k ∨ l.length < j + k + 1 then l.getD (l.length - 1 - j) false else l.getD j false
theorem revP_len (l : List Bool) (k : Nat) : (revP l k).length = l.length := by simp [revP]
theorem revP_at (l : List Bool) (k j : Nat) (h : j < l.length) : (revP l k)[j]? = some (if j < k ∨ l.length < j + k + 1 then l.getD (l.length - 1 - j) false else l.getD j false) := by
  rw [revP, List.getElem?_map, List.getElem?_range h]; rfl
theorem revP_zero (l : List Bool) : revP l 0 = l := by
  apply List.ext_getElem?
  intro j
  by_cases h : j < l.length
  · rw [revP_at l 0 j h, if_neg (by omega), List.getD_eq_getElem?_getD, List.getElem?_eq_getElem h]; rfl
  · rw [List.getElem?_eq_none (by rw [revP_len]; omega), List.getElem?_eq_none (by omega)]
theorem revP_half (l : List Bool) (k : Nat) (h : k = l.length / 2) : revP l k = l.reverse := by
  apply List.ext_getElem?
  intro j
  by_cases hj : j < l.length
  · rw [revP_at l k j hj, List.getElem?_reverse hj]
    rw [List.getD_eq_getElem?_getD, List.getD_eq_getElem?_getD, List.getElem?_eq_getElem (show l.length - 1 - j < l.length by omega), List.getElem?_eq_getElem hj]
    by_cases h2 : j < k ∨ l.length < j + k + 1
    · rw [if_pos h2]; rfl
    · rw [if_neg h2]
      have e : l.length - 1 - j = j := by omega
      simp [e]
  · rw [List.getElem?_eq_none (by rw [revP_len]; omega), List.getElem?_eq_none (by rw [List.length_reverse]; omega)]
theorem revP_low (l : List Bool) (k : Nat) (h : 2 * k + 1 < l.length) : (revP l k)[k]? = some (l.getD k false) := by
  rw [revP_at l k k (by omega), if_neg (by omega)]
theorem revP_high (l : List Bool) (k : Nat) (h : 2 * k + 1 < l.length) : (revP l k)[l.length - 1 - k]? = some (l.getD (l.length - 1 - k) false) := by
  rw [revP_at l k _ (by omega), if_neg (by omega)]
theorem revP_step (l : List Bool) (k : Nat) (h : 2 * k + 1 < l.length) : ((revP l k).set k (l.getD (l.length - 1 - k) false)).set (l.length - 1 - k) (l.getD k false) = revP l (k + 1) := by
  apply List.ext_getElem?
  intro j
  by_cases hj : j < l.length
  · by_cases h2 : j = l.length - 1 - k
    · subst h2
      rw [List.getElem?_set_self (by rw [List.length_set, revP_len]; exact hj), revP_at l (k + 1) _ hj, if_pos (by omega)]
      congr 2
      omega
    · rw [List.getElem?_set_ne (by omega)]
      by_cases h1 : j = k
      · subst h1
        rw [List.getElem?_set_self (by rw [revP_len]; exact hj), revP_at l (j + 1) j hj, if_pos (by omega)]
      · rw [List.getElem?_set_ne (by omega), revP_at l k j hj, revP_at l (k + 1) j hj]
        by_cases h3 : j < k ∨ l.length < j + k + 1
        · rw [if_pos h3, if_pos (by omega)]
        · rw [if_neg h3, if_neg (by omega)]
  · rw [List.getElem?_eq_none (by simp [revP_len]; omega), List.getElem?_eq_none (by rw [revP_len]; omega)]
theorem rev_take (l : List Bool) (k : Nat) (h : k < l.length) : l.reverse.take (k + 1) = l.reverse.take k ++ [l.getD (l.length - 1 - k) false] := by
  rw [List.take_add_one, List.getElem?_reverse h, List.getD_eq_getElem?_getD, List.getElem?_eq_getElem (show l.length - 1 - k < l.length by omega)]
  rfl
end Go.Proofs.YtpniolinndlepaaGreatDoor
