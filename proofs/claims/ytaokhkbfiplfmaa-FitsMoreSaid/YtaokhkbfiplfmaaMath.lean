/-
  Plain facts on numbers and lists of numbers for layer 1 (bits): words that are turned, bytes that are words, numbers that are bytes. No memory and no program here.
-/
namespace Go.Proofs.Ytaokhkbfiplfmaa

/-- One place further down, what leaves at the end comes in at the front. -/
def stp (x : Nat) : Nat := x / 2 + x % 2 * 2147483648
/-- k places further down. -/
def itr : Nat → Nat → Nat
  | 0, x => x
  | k + 1, x => stp (itr k x)
def rotF (x k : Nat) : Nat := x / 2 ^ k + x % 2 ^ k * 2 ^ (32 - k)

theorem stp_lt {x : Nat} (h : x < 4294967296) : stp x < 4294967296 := by unfold stp; omega
theorem itr_lt (k : Nat) {x : Nat} (h : x < 4294967296) : itr k x < 4294967296 := by
  induction k with
  | zero => exact h
  | succ k ih => exact stp_lt ih

theorem rotF_succ (x k : Nat) (hk : k < 32) : rotF x (k + 1) = stp (rotF x k) := by
  have e1 : 2 ^ (32 - k) = 2 * 2 ^ (32 - (k + 1)) := by rw [show 32 - k = (32 - (k + 1)) + 1 by omega, Nat.pow_succ]; omega
  have e2 : x / 2 ^ (k + 1) = x / 2 ^ k / 2 := by rw [Nat.pow_succ, Nat.div_div_eq_div_mul]
  have e3 : x % 2 ^ (k + 1) = x % 2 ^ k + 2 ^ k * (x / 2 ^ k % 2) := by rw [Nat.pow_succ, Nat.mod_mul]
  have e4 : 2 ^ k * 2 ^ (32 - (k + 1)) = 2147483648 := by rw [← Nat.pow_add, show k + (32 - (k + 1)) = 31 by omega]
  unfold rotF stp
  rw [e1, e2, e3, Nat.add_mul, Nat.mul_assoc, Nat.mul_comm (x / 2 ^ k % 2), ← Nat.mul_assoc, e4]
  have e5 : x % 2 ^ k * (2 * 2 ^ (32 - (k + 1))) = 2 * (x % 2 ^ k * 2 ^ (32 - (k + 1))) := by rw [Nat.mul_left_comm]
  rw [e5]
  generalize x % 2 ^ k * 2 ^ (32 - (k + 1)) = p
  generalize x / 2 ^ k = q
  omega

theorem rotF_zero (x : Nat) : rotF x 0 = x := by unfold rotF; simp [Nat.mod_one]
theorem itr_eq (x k : Nat) (hk : k ≤ 32) : itr k x = rotF x k := by
  induction k with
  | zero => exact (rotF_zero x).symm
  | succ k ih => rw [rotF_succ x k (by omega), ← ih (by omega)]; rfl
theorem itr_round {x : Nat} (h : x < 4294967296) : itr 32 x = x := by
  rw [itr_eq x 32 (by omega)]; unfold rotF; simp; omega
theorem itr_add (a b x : Nat) : itr (a + b) x = itr a (itr b x) := by
  induction a with
  | zero => simp [itr]
  | succ a ih => rw [Nat.succ_add]; show stp _ = stp _; rw [ih]
theorem itr_mod (k : Nat) {x : Nat} (h : x < 4294967296) : itr (k % 32) x = itr k x := by
  induction k using Nat.strongRecOn with
  | _ k ih =>
    by_cases hk : k < 32
    · rw [Nat.mod_eq_of_lt hk]
    · have e : k = (k - 32) + 32 := by omega
      rw [e, itr_add, itr_round h, ← ih (k - 32) (by omega)]
      congr 1
      omega
theorem itr_like {a b x : Nat} (h : x < 4294967296) (hab : a % 32 = b % 32) : itr a x = itr b x := by
  rw [← itr_mod a h, ← itr_mod b h, hab]

/-- What the two shifted words make together. -/
theorem or_rot (x k : Nat) (hx : x < 4294967296) (hk : k < 32) : x / 2 ^ k ||| x * 2 ^ (32 - k) % 4294967296 = itr k x := by
  have e : (4294967296 : Nat) = 2 ^ k * 2 ^ (32 - k) := by rw [← Nat.pow_add, show k + (32 - k) = 32 by omega]
  have hlt : x / 2 ^ k < 2 ^ (32 - k) := by
    rw [Nat.div_lt_iff_lt_mul (Nat.two_pow_pos k), Nat.mul_comm, ← e]; exact hx
  rw [itr_eq x k (by omega), e, Nat.mul_mod_mul_right, Nat.or_comm, Nat.mul_comm, ← Nat.two_pow_add_eq_or_of_lt hlt]
  unfold rotF
  rw [Nat.mul_comm (x % 2 ^ k), Nat.add_comm]

/-- The number that bytes are, the highest one first. -/
def valB (l : List Nat) : Nat := l.foldl (fun a b => a * 256 + b) 0
theorem valB_snoc (l : List Nat) (x : Nat) : valB (l ++ [x]) = valB l * 256 + x := by simp [valB]
theorem foldl_shift (l : List Nat) (a : Nat) : l.foldl (fun a b => a * 256 + b) a = a * 256 ^ l.length + valB l := by
  induction l generalizing a with
  | nil => simp [valB]
  | cons x l ih =>
    rw [List.foldl_cons, ih]
    have e : valB (x :: l) = x * 256 ^ l.length + valB l := by
      show List.foldl _ _ _ = _
      rw [List.foldl_cons, ih]; simp
    rw [e, List.length_cons, Nat.pow_succ, Nat.add_mul, Nat.mul_assoc, Nat.mul_comm 256, Nat.add_assoc]
theorem valB_cons (x : Nat) (l : List Nat) : valB (x :: l) = x * 256 ^ l.length + valB l := by
  show List.foldl _ _ _ = _
  rw [List.foldl_cons, foldl_shift]; simp

theorem valB_lt (l : List Nat) (h : ∀ x ∈ l, x < 256) : valB l < 256 ^ l.length := by
  induction l with
  | nil => simp [valB]
  | cons x l ih =>
    have h1 := ih (fun y hy => h y (by simp [hy]))
    have h2 := h x (by simp)
    rw [valB_cons, List.length_cons, Nat.pow_succ]
    have h3 : x * 256 ^ l.length ≤ 255 * 256 ^ l.length := Nat.mul_le_mul_right _ (by omega)
    omega

/-- The word j of the first i bytes of l. -/
def wordAt (l : List Nat) (i j : Nat) : Nat := valB (((l.take i).drop (4 * j)).take 4)
def wordsUpto (l : List Nat) (m i : Nat) : List Nat := (List.range m).map (wordAt l i)
theorem length_wordsUpto (l : List Nat) (m i : Nat) : (wordsUpto l m i).length = m := by simp [wordsUpto]

theorem wordAt_next (l : List Nat) (i : Nat) (hi : i < l.length) : wordAt l (i + 1) (i / 4) = wordAt l i (i / 4) * 256 + l[i] := by
  unfold wordAt
  rw [List.take_succ_eq_append_getElem hi, List.drop_append_of_le_length (by simp; omega), List.take_of_length_le (by simp; omega), List.take_of_length_le (l := (l.take i).drop (4 * (i / 4))) (by simp; omega), valB_snoc]
theorem wordAt_other (l : List Nat) (i j : Nat) (hi : i < l.length) (hj : j ≠ i / 4) : wordAt l (i + 1) j = wordAt l i j := by
  unfold wordAt
  rw [List.take_succ_eq_append_getElem hi]
  by_cases h : j < i / 4
  · rw [List.drop_append_of_le_length (by simp; omega), List.take_append_of_le_length (by simp; omega)]
  · rw [List.drop_eq_nil_of_le (by simp; omega), List.drop_eq_nil_of_le (by simp; omega)]
theorem wordsUpto_set (l : List Nat) (m i : Nat) (hi : i < l.length) : (wordsUpto l m i).set (i / 4) (wordAt l i (i / 4) * 256 + l[i]) = wordsUpto l m (i + 1) := by
  apply List.ext_getElem
  · simp [wordsUpto]
  · intro j h1 h2
    rw [List.getElem_set]
    simp only [wordsUpto, List.getElem_map, List.getElem_range]
    split
    · next h => subst h; rw [wordAt_next l i hi]
    · next h => rw [wordAt_other l i j hi (by omega)]
theorem mem_part {l : List Nat} {i a b x : Nat} (h : x ∈ ((l.take i).drop a).take b) : x ∈ l := List.mem_of_mem_take (List.mem_of_mem_drop (List.mem_of_mem_take h))
theorem wordAt_lt (l : List Nat) (hl : ∀ x ∈ l, x < 256) (i j : Nat) : wordAt l i j < 4294967296 := by
  have h := valB_lt (((l.take i).drop (4 * j)).take 4) (fun x hx => hl x (mem_part hx))
  have h2 : 256 ^ (((l.take i).drop (4 * j)).take 4).length ≤ 256 ^ 4 := Nat.pow_le_pow_right (by omega) (by simp; omega)
  unfold wordAt
  omega
/-- A word that is not whole yet has room for a byte more. -/
theorem wordAt_room (l : List Nat) (hl : ∀ x ∈ l, x < 256) (i : Nat) : wordAt l i (i / 4) < 16777216 := by
  have h := valB_lt (((l.take i).drop (4 * (i / 4))).take 4) (fun x hx => hl x (mem_part hx))
  have h2 : 256 ^ (((l.take i).drop (4 * (i / 4))).take 4).length ≤ 256 ^ 3 := Nat.pow_le_pow_right (by omega) (by simp; omega)
  unfold wordAt
  omega
theorem wordAt_none (l : List Nat) (j : Nat) : wordAt l 0 j = 0 := by simp [wordAt, valB]
theorem wordsUpto_zero (l : List Nat) (m : Nat) : wordsUpto l m 0 = List.replicate m 0 := by
  apply List.ext_getElem
  · simp [wordsUpto]
  · intro j h1 h2
    simp [wordsUpto, wordAt_none]
theorem wordsUpto_get (l : List Nat) (m i j : Nat) (h : j < m) : (wordsUpto l m i)[j]? = some (wordAt l i j) := by simp [wordsUpto, h]

/-- The words of bytes. -/
def wordsOf (l : List Nat) : List Nat := wordsUpto l (l.length / 4) l.length
theorem length_wordsOf (l : List Nat) : (wordsOf l).length = l.length / 4 := by simp [wordsOf, wordsUpto]
theorem wordsOf_lt (l : List Nat) (hl : ∀ x ∈ l, x < 256) : ∀ x ∈ wordsOf l, x < 4294967296 := by
  intro x hx
  simp only [wordsOf, wordsUpto, List.mem_map] at hx
  obtain ⟨j, _, rfl⟩ := hx
  exact wordAt_lt l hl _ _
theorem wordsUpto_succ (l : List Nat) (k i : Nat) : wordsUpto l (k + 1) i = wordsUpto l k i ++ [wordAt l i k] := by simp [wordsUpto, List.range_succ]

/-- The byte i of words. -/
def byteAt (ws : List Nat) (i : Nat) : Nat := ws.getD (i / 4) 0 / 2 ^ (8 * (3 - i % 4)) % 256
def bytesUpto (ws : List Nat) (m i : Nat) : List Nat := (List.range m).map fun t => if t < i then byteAt ws t else 0
def bytesOf (ws : List Nat) : List Nat := (List.range (4 * ws.length)).map (byteAt ws)
theorem length_bytesOf (ws : List Nat) : (bytesOf ws).length = 4 * ws.length := by simp [bytesOf]
theorem byteAt_lt (ws : List Nat) (i : Nat) : byteAt ws i < 256 := Nat.mod_lt _ (by omega)
theorem bytesOf_lt (ws : List Nat) : ∀ x ∈ bytesOf ws, x < 256 := by
  intro x hx
  simp only [bytesOf, List.mem_map] at hx
  obtain ⟨j, _, rfl⟩ := hx
  exact byteAt_lt ws j
theorem bytesUpto_zero (ws : List Nat) (m : Nat) : bytesUpto ws m 0 = List.replicate m 0 := by
  apply List.ext_getElem <;> simp [bytesUpto]
theorem bytesUpto_set (ws : List Nat) (m i : Nat) : (bytesUpto ws m i).set i (byteAt ws i) = bytesUpto ws m (i + 1) := by
  apply List.ext_getElem
  · simp [bytesUpto]
  · intro j h1 h2
    rw [List.getElem_set]
    simp only [bytesUpto, List.getElem_map, List.getElem_range]
    split
    · next h => subst h; simp
    · next h => 
      by_cases h3 : j < i
      · rw [if_pos h3, if_pos (by omega)]
      · rw [if_neg h3, if_neg (by omega)]
theorem bytesUpto_all (ws : List Nat) : bytesUpto ws (4 * ws.length) (4 * ws.length) = bytesOf ws := by
  apply List.ext_getElem
  · simp [bytesUpto, bytesOf]
  · intro j h1 h2
    rw [length_bytesOf] at h2
    simp [bytesUpto, bytesOf, h2]
/-- The bytes of the first k words. -/
def bytesTo (ws : List Nat) (k : Nat) : List Nat := (List.range (4 * k)).map (byteAt ws)
theorem bytesTo_succ (ws : List Nat) (k : Nat) (hk : k < ws.length) (hw : ∀ x ∈ ws, x < 4294967296) :
    bytesTo ws (k + 1) = bytesTo ws k ++ [ws[k] / 16777216, ws[k] / 65536 % 256, ws[k] / 256 % 256, ws[k] % 256] := by
  have hx := hw ws[k] (List.getElem_mem hk)
  unfold bytesTo
  rw [show 4 * (k + 1) = 4 * k + 1 + 1 + 1 + 1 by omega]
  simp only [List.range_succ, List.map_append, List.map_cons, List.map_nil, List.append_assoc, List.cons_append, List.nil_append]
  have d0 : 4 * k / 4 = k := by omega
  have d1 : (4 * k + 1) / 4 = k := by omega
  have d2 : (4 * k + 1 + 1) / 4 = k := by omega
  have d3 : (4 * k + 1 + 1 + 1) / 4 = k := by omega
  have m0 : 4 * k % 4 = 0 := by omega
  have m1 : (4 * k + 1) % 4 = 1 := by omega
  have m2 : (4 * k + 1 + 1) % 4 = 2 := by omega
  have m3 : (4 * k + 1 + 1 + 1) % 4 = 3 := by omega
  have g : ws.getD k 0 = ws[k] := by simp [hk]
  simp only [byteAt, d0, d1, d2, d3, m0, m1, m2, m3, g]
  congr 1
  simp only [Nat.reduceSub, Nat.reduceMul, Nat.reducePow, Nat.div_one, List.cons.injEq, and_true]
  omega

theorem valB_four (a b c d : Nat) : valB [a, b, c, d] = ((a * 256 + b) * 256 + c) * 256 + d := by simp [valB]
theorem four_of (l : List Nat) (j : Nat) (h : 4 * j + 4 ≤ l.length) : (l.drop (4 * j)).take 4 = [l[4 * j], l[4 * j + 1], l[4 * j + 2], l[4 * j + 3]] := by
  apply List.ext_getElem
  · simp; omega
  · intro t h1 h2
    simp at h2
    match t, h2 with
    | 0, _ => simp
    | 1, _ => simp
    | 2, _ => simp
    | 3, _ => simp
theorem wordAt_full (l : List Nat) (j : Nat) (h : 4 * j + 4 ≤ l.length) : wordAt l l.length j = ((l[4 * j] * 256 + l[4 * j + 1]) * 256 + l[4 * j + 2]) * 256 + l[4 * j + 3] := by
  unfold wordAt
  rw [List.take_length, four_of l j h, valB_four]

/-- Words that were made bytes are words again. -/
theorem words_bytes (ws : List Nat) (hw : ∀ x ∈ ws, x < 4294967296) : wordsOf (bytesOf ws) = ws := by
  have hl := length_bytesOf ws
  apply List.ext_getElem
  · rw [length_wordsOf, hl]; omega
  · intro j h1 h2
    have hx := hw ws[j] (List.getElem_mem h2)
    have g : ws.getD j 0 = ws[j] := by simp [h2]
    simp only [wordsOf, wordsUpto, List.getElem_map, List.getElem_range]
    rw [wordAt_full _ _ (by omega)]
    simp only [bytesOf, List.getElem_map, List.getElem_range]
    have d0 : 4 * j / 4 = j := by omega
    have d1 : (4 * j + 1) / 4 = j := by omega
    have d2 : (4 * j + 2) / 4 = j := by omega
    have d3 : (4 * j + 3) / 4 = j := by omega
    have m0 : 4 * j % 4 = 0 := by omega
    have m1 : (4 * j + 1) % 4 = 1 := by omega
    have m2 : (4 * j + 2) % 4 = 2 := by omega
    have m3 : (4 * j + 3) % 4 = 3 := by omega
    simp only [byteAt, d0, d1, d2, d3, m0, m1, m2, m3, g, Nat.reduceSub, Nat.reduceMul, Nat.reducePow, Nat.div_one]
    omega

/-- Bytes that were made words are bytes again. -/
theorem bytes_words (l : List Nat) (hl : ∀ x ∈ l, x < 256) (h4 : l.length % 4 = 0) : bytesOf (wordsOf l) = l := by
  have hn := length_wordsOf l
  apply List.ext_getElem
  · rw [length_bytesOf, hn]; omega
  · intro i h1 h2
    simp only [bytesOf, List.getElem_map, List.getElem_range]
    have hj : i / 4 < (wordsOf l).length := by omega
    have g : (wordsOf l).getD (i / 4) 0 = wordAt l l.length (i / 4) := by
      rw [List.getD_eq_getElem?_getD, List.getElem?_eq_getElem hj]
      simp [wordsOf, wordsUpto]
    unfold byteAt
    rw [g, wordAt_full l (i / 4) (by omega)]
    have a0 := hl _ (List.getElem_mem (show 4 * (i / 4) < l.length by omega))
    have a1 := hl _ (List.getElem_mem (show 4 * (i / 4) + 1 < l.length by omega))
    have a2 := hl _ (List.getElem_mem (show 4 * (i / 4) + 2 < l.length by omega))
    have a3 := hl _ (List.getElem_mem (show 4 * (i / 4) + 3 < l.length by omega))
    rcases (show i % 4 = 0 ∨ i % 4 = 1 ∨ i % 4 = 2 ∨ i % 4 = 3 by omega) with e | e | e | e
    · have q : l[i] = l[4 * (i / 4)] := by congr 1; omega
      rw [e, q]; simp only [Nat.reduceSub, Nat.reduceMul, Nat.reducePow]; omega
    · have q : l[i] = l[4 * (i / 4) + 1] := by congr 1; omega
      rw [e, q]; simp only [Nat.reduceSub, Nat.reduceMul, Nat.reducePow]; omega
    · have q : l[i] = l[4 * (i / 4) + 2] := by congr 1; omega
      rw [e, q]; simp only [Nat.reduceSub, Nat.reduceMul, Nat.reducePow]; omega
    · have q : l[i] = l[4 * (i / 4) + 3] := by congr 1; omega
      rw [e, q]; simp only [Nat.reduceSub, Nat.reduceMul, Nat.reducePow, Nat.div_one]; omega

/-- n as size bytes, the highest one first. -/
def putB (n : Nat) : Nat → List Nat
  | 0 => []
  | k + 1 => n / 256 ^ k % 256 :: putB n k
theorem length_putB (n k : Nat) : (putB n k).length = k := by
  induction k with
  | zero => rfl
  | succ k ih => simp [putB, ih]
theorem putB_lt (n k : Nat) : ∀ x ∈ putB n k, x < 256 := by
  induction k with
  | zero => intro x hx; simp [putB] at hx
  | succ k ih =>
    intro x hx
    rcases List.mem_cons.1 hx with rfl | hx
    · exact Nat.mod_lt _ (by omega)
    · exact ih x hx
theorem putB_get (n k i : Nat) (h : i < k) : (putB n k)[i]? = some (n / 256 ^ (k - 1 - i) % 256) := by
  induction k generalizing i with
  | zero => omega
  | succ k ih =>
    match i with
    | 0 => simp [putB]
    | i + 1 =>
      rw [putB, List.getElem?_cons_succ, ih i (by omega), show k + 1 - 1 - (i + 1) = k - 1 - i by omega]
def putUpto (n m i : Nat) : List Nat := (List.range m).map fun t => if t < i then n / 256 ^ (m - 1 - t) % 256 else 0
theorem putUpto_zero (n m : Nat) : putUpto n m 0 = List.replicate m 0 := by
  apply List.ext_getElem <;> simp [putUpto]
theorem putUpto_set (n m i : Nat) : (putUpto n m i).set i (n / 256 ^ (m - 1 - i) % 256) = putUpto n m (i + 1) := by
  apply List.ext_getElem
  · simp [putUpto]
  · intro j h1 h2
    rw [List.getElem_set]
    simp only [putUpto, List.getElem_map, List.getElem_range]
    split
    · next h => subst h; simp
    · next h =>
      by_cases h3 : j < i
      · rw [if_pos h3, if_pos (by omega)]
      · rw [if_neg h3, if_neg (by omega)]
theorem putUpto_all (n m : Nat) : putUpto n m m = putB n m := by
  apply List.ext_getElem?
  intro j
  by_cases h : j < m
  · rw [putB_get n m j h]; simp [putUpto, h]
  · rw [List.getElem?_eq_none (by simp [putUpto]; omega), List.getElem?_eq_none (by rw [length_putB]; omega)]
/-- What was put is got again. -/
theorem valB_putB (n k : Nat) : valB (putB n k) = n % 256 ^ k := by
  induction k with
  | zero => simp [putB, valB, Nat.mod_one]
  | succ k ih => rw [putB, valB_cons, length_putB, ih, Nat.pow_succ, Nat.mod_mul, Nat.mul_comm, Nat.add_comm]
end Go.Proofs.Ytaokhkbfiplfmaa
