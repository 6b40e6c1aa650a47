/-
  Plain facts on numbers and lists of numbers for layer 1 (bits): words that are turned, bytes that are words, numbers that are bytes. No memory and no program here.
  Plain facts for layer 7 (line): stations, zones, ways. No memory and no program here.
  Plain facts for layer 8 (fare): prices. No memory and no program here.
  Plain facts for layer 9 (ticket): tickets, what they cover, what they cost. No memory and no program here.
  Numbers that fit an int. No program here.
  Which media a ticket has room on, plainly. No program; conditions: none.
  What a stripe or a barcode says: a ticket, a key's number, a journey, a version. No program here.
  Numbers as decimal digits: what package bcd's functions answer, plainly; that digits and numbers are one another's; order. No program; conditions: none.
  What package layout's functions answer, plainly: widths, what a stripe says as numbers, as digits, and back; that these are one another's. No program; conditions: none.
  Plain facts for layer 11 (track): bits and bytes. No memory and no program here.
  Plain facts for layer 10 (parity): characters, sums, bits. No memory and no program here.
  Plain facts for layer 11 (track): tracks, what Get answers, both ways; bits laid one by one. No memory and no program here.
  Plain facts about what is told of a track. No memory and no program here.
  Plain facts for layer 14 (swipe): bits turned round, and what is read of bytes either way round. No memory and no program here.
  Plain facts for layer 5 (ring): keys, rings, and what is found in them. No memory and no program here.
  Plain facts on numbers for layer 2 (sha): words that are mixed bit by bit, the sixty-four words of a block, its sixty-four rounds. No memory and no program here.
  Plain facts on numbers for layer 2's blocks: the table, the sixty-four words, the rounds. No memory and no program here.
  Plain facts for layer 4 (seal): the bits in which bytes differ, and a number's ten digits. No memory and no program here.
-/
import Derived.KernelRfl
section
namespace Go.Proofs.YtaokhkbfiplfmaaGreatDoor

/-- One place further down, what leaves at the end comes in at the front. -/
def stp (x : Nat) : Nat := x / 2 + x % 2 * 2147483648
/-- k places further down. -/
def itr : Nat → Nat → Nat
  | 0, x => x
  | k + 1, x => stp (itr k x)
def rotF (x k : Nat) : Nat := x / 2 ^ k + x % 2 ^ k * 2 ^ (32 - k)

theorem stp_lt {x : Nat} (h : x < 4294967296) : stp x < 4294967296 := by unfold stp; omega
theorem itr_lt (k : Nat) {x : Nat} (h : x < 4294967296) : itr k x < 4294967296 := by
  induction k with
  | zero => exact h
  | succ k ih => exact stp_lt ih

theorem rotF_succ (x k : Nat) (hk : k < 32) : rotF x (k + 1) = stp (rotF x k) := by
  have e1 : 2 ^ (32 - k) = 2 * 2 ^ (32 - (k + 1)) := by rw [show 32 - k = (32 - (k + 1)) + 1 by omega, Nat.pow_succ]; omega
  have e2 : x / 2 ^ (k + 1) = x / 2 ^ k / 2 := by rw [Nat.pow_succ, Nat.div_div_eq_div_mul]
  have e3 : x % 2 ^ (k + 1) = x % 2 ^ k + 2 ^ k * (x / 2 ^ k % 2) := by rw [Nat.pow_succ, Nat.mod_mul]
  have e4 : 2 ^ k * 2 ^ (32 - (k + 1)) = 2147483648 := by rw [← Nat.pow_add, show k + (32 - (k + 1)) = 31 by omega]
  unfold rotF stp
  rw [e1, e2, e3, Nat.add_mul, Nat.mul_assoc, Nat.mul_comm (x / 2 ^ k % 2), ← Nat.mul_assoc, e4]
  have e5 : x % 2 ^ k * (2 * 2 ^ (32 - (k + 1))) = 2 * (x % 2 ^ k * 2 ^ (32 - (k + 1))) := by rw [Nat.mul_left_comm]
  rw [e5]
  generalize x % 2 ^ k * 2 ^ (32 - (k + 1)) = p
  generalize x / 2 ^ k = q
  omega

theorem rotF_zero (x : Nat) : rotF x 0 = x := by unfold rotF; simp [Nat.mod_one]
theorem itr_eq (x k : Nat) (hk : k ≤ 32) : itr k x = rotF x k := by
  induction k with
  | zero => exact (rotF_zero x).symm
  | succ k ih => rw [rotF_succ x k (by omega), ← ih (by omega)]; rfl
/-- What the two shifted words make together. -/
theorem or_rot (x k : Nat) (hx : x < 4294967296) (hk : k < 32) : x / 2 ^ k ||| x * 2 ^ (32 - k) % 4294967296 = itr k x := by
  have e : (4294967296 : Nat) = 2 ^ k * 2 ^ (32 - k) := by rw [← Nat.pow_add, show k + (32 - k) = 32 by omega]
  have hlt : x / 2 ^ k < 2 ^ (32 - k) := by
    rw [Nat.div_lt_iff_lt_mul (Nat.two_pow_pos k), Nat.mul_comm, ← e]; exact hx
  rw [itr_eq x k (by omega), e, Nat.mul_mod_mul_right, Nat.or_comm, Nat.mul_comm, ← Nat.two_pow_add_eq_or_of_lt hlt]
  unfold rotF
  rw [Nat.mul_comm (x % 2 ^ k), Nat.add_comm]

/-- The number that bytes are, the highest one first. -/
def valB (l : List Nat) : Nat := l.foldl (fun a b => a * 256 + b) 0
theorem valB_snoc (l : List Nat) (x : Nat) : valB (l ++ [x]) = valB l * 256 + x := by simp [valB]
theorem foldl_shift (l : List Nat) (a : Nat) : l.foldl (fun a b => a * 256 + b) a = a * 256 ^ l.length + valB l := by
  induction l generalizing a with
  | nil => simp [valB]
  | cons x l ih =>
    rw [List.foldl_cons, ih]
    have e : valB (x :: l) = x * 256 ^ l.length + valB l := by
      show List.foldl _ _ _ = _
      rw [List.foldl_cons, ih]; simp
    rw [e, List.length_cons, Nat.pow_succ, Nat.add_mul, Nat.mul_assoc, Nat.mul_comm 256, Nat.add_assoc]
theorem valB_cons (x : Nat) (l : List Nat) : valB (x :: l) = x * 256 ^ l.length + valB l := by
  show List.foldl _ _ _ = _
  rw [List.foldl_cons, foldl_shift]; simp

theorem valB_lt (l : List Nat) (h : ∀ x ∈ l, x < 256) : valB l < 256 ^ l.length := by
  induction l with
  | nil => simp [valB]
  | cons x l ih =>
    have h1 := ih (fun y hy => h y (by simp [hy]))
    have h2 := h x (by simp)
    rw [valB_cons, List.length_cons, Nat.pow_succ]
    have h3 : x * 256 ^ l.length ≤ 255 * 256 ^ l.length := Nat.mul_le_mul_right _ (by omega)
    omega

/-- The word j of the first i bytes of l. -/
def wordAt (l : List Nat) (i j : Nat) : Nat := valB (((l.take i).drop (4 * j)).take 4)
def wordsUpto (l : List Nat) (m i : Nat) : List Nat := (List.range m).map (wordAt l i)
theorem wordAt_next (l : List Nat) (i : Nat) (hi : i < l.length) : wordAt l (i + 1) (i / 4) = wordAt l i (i / 4) * 256 + l[i] := by
  unfold wordAt
  rw [List.take_succ_eq_append_getElem hi, List.drop_append_of_le_length (by simp; omega), List.take_of_length_le (by simp; omega), List.take_of_length_le (l := (l.take i).drop (4 * (i / 4))) (by simp; omega), valB_snoc]
theorem wordAt_other (l : List Nat) (i j : Nat) (hi : i < l.length) (hj : j ≠ i / 4) : wordAt l (i + 1) j = wordAt l i j := by
  unfold wordAt
  rw [List.take_succ_eq_append_getElem hi]
  by_cases h : j < i / 4
  · rw [List.drop_append_of_le_length (by simp; omega), List.take_append_of_le_length (by simp; omega)]
  · rw [List.drop_eq_nil_of_le (by simp; omega), List.drop_eq_nil_of_le (by simp; omega)]
theorem wordsUpto_set (l : List Nat) (m i : Nat) (hi : i < l.length) : (wordsUpto l m i).set (i / 4) (wordAt l i (i / 4) * 256 + l[i]) = wordsUpto l m (i + 1) := by
  apply List.ext_getElem
  · simp [wordsUpto]
  · intro j h1 h2
    rw [List.getElem_set]
    simp only [wordsUpto, List.getElem_map, List.getElem_range]
    split
    · next h => subst h; rw [wordAt_next l i hi]
    · next h => rw [wordAt_other l i j hi (by omega)]
theorem mem_part {l : List Nat} {i a b x : Nat} (h : x ∈ ((l.take i).drop a).take b) : x ∈ l := List.mem_of_mem_take (List.mem_of_mem_drop (List.mem_of_mem_take h))
theorem wordAt_lt (l : List Nat) (hl : ∀ x ∈ l, x < 256) (i j : Nat) : wordAt l i j < 4294967296 := by
  have h := valB_lt (((l.take i).drop (4 * j)).take 4) (fun x hx => hl x (mem_part hx))
  have h2 : 256 ^ (((l.take i).drop (4 * j)).take 4).length ≤ 256 ^ 4 := Nat.pow_le_pow_right (by omega) (by simp; omega)
  unfold wordAt
  omega
/-- A word that is not whole yet has room for a byte more. -/
theorem wordAt_room (l : List Nat) (hl : ∀ x ∈ l, x < 256) (i : Nat) : wordAt l i (i / 4) < 16777216 := by
  have h := valB_lt (((l.take i).drop (4 * (i / 4))).take 4) (fun x hx => hl x (mem_part hx))
  have h2 : 256 ^ (((l.take i).drop (4 * (i / 4))).take 4).length ≤ 256 ^ 3 := Nat.pow_le_pow_right (by omega) (by simp; omega)
  unfold wordAt
  omega
theorem wordAt_none (l : List Nat) (j : Nat) : wordAt l 0 j = 0 := by simp [wordAt, valB]
theorem wordsUpto_zero (l : List Nat) (m : Nat) : wordsUpto l m 0 = List.replicate m 0 := by
  apply List.ext_getElem
  · simp [wordsUpto]
  · intro j h1 h2
    simp [wordsUpto, wordAt_none]
theorem wordsUpto_get (l : List Nat) (m i j : Nat) (h : j < m) : (wordsUpto l m i)[j]? = some (wordAt l i j) := by simp [wordsUpto, h]

/-- The words of bytes. -/
def wordsOf (l : List Nat) : List Nat := wordsUpto l (l.length / 4) l.length
theorem length_wordsOf (l : List Nat) : (wordsOf l).length = l.length / 4 := by simp [wordsOf, wordsUpto]
theorem wordsOf_lt (l : List Nat) (hl : ∀ x ∈ l, x < 256) : ∀ x ∈ wordsOf l, x < 4294967296 := by
  intro x hx
  simp only [wordsOf, wordsUpto, List.mem_map] at hx
  obtain ⟨j, _, rfl⟩ := hx
  exact wordAt_lt l hl _ _
/-- The byte i of words. -/
def byteAt (ws : List Nat) (i : Nat) : Nat := ws.getD (i / 4) 0 / 2 ^ (8 * (3 - i % 4)) % 256
def bytesUpto (ws : List Nat) (m i : Nat) : List Nat := (List.range m).map fun t => if t < i then byteAt ws t else 0
def bytesOf (ws : List Nat) : List Nat := (List.range (4 * ws.length)).map (byteAt ws)
theorem length_bytesOf (ws : List Nat) : (bytesOf ws).length = 4 * ws.length := by simp [bytesOf]
theorem byteAt_lt (ws : List Nat) (i : Nat) : byteAt ws i < 256 := Nat.mod_lt _ (by omega)
theorem bytesOf_lt (ws : List Nat) : ∀ x ∈ bytesOf ws, x < 256 := by
  intro x hx
  simp only [bytesOf, List.mem_map] at hx
  obtain ⟨j, _, rfl⟩ := hx
  exact byteAt_lt ws j
theorem bytesUpto_zero (ws : List Nat) (m : Nat) : bytesUpto ws m 0 = List.replicate m 0 := by
  apply List.ext_getElem <;> simp [bytesUpto]
theorem bytesUpto_set (ws : List Nat) (m i : Nat) : (bytesUpto ws m i).set i (byteAt ws i) = bytesUpto ws m (i + 1) := by
  apply List.ext_getElem
  · simp [bytesUpto]
  · intro j h1 h2
    rw [List.getElem_set]
    simp only [bytesUpto, List.getElem_map, List.getElem_range]
    split
    · next h => subst h; simp
    · next h => 
      by_cases h3 : j < i
      · rw [if_pos h3, if_pos (by omega)]
      · rw [if_neg h3, if_neg (by omega)]
theorem bytesUpto_all (ws : List Nat) : bytesUpto ws (4 * ws.length) (4 * ws.length) = bytesOf ws := by
  apply List.ext_getElem
  · simp [bytesUpto, bytesOf]
  · intro j h1 h2
    rw [length_bytesOf] at h2
    simp [bytesUpto, bytesOf, h2]
/-- n as size bytes, the highest one first. -/
def putB (n : Nat) : Nat → List Nat
  | 0 => []
  | k + 1 => n / 256 ^ k % 256 :: putB n k
theorem length_putB (n k : Nat) : (putB n k).length = k := by
  induction k with
  | zero => rfl
  | succ k ih => simp [putB, ih]
theorem putB_lt (n k : Nat) : ∀ x ∈ putB n k, x < 256 := by
  induction k with
  | zero => intro x hx; simp [putB] at hx
  | succ k ih =>
    intro x hx
    rcases List.mem_cons.1 hx with rfl | hx
    · exact Nat.mod_lt _ (by omega)
    · exact ih x hx
theorem putB_get (n k i : Nat) (h : i < k) : (putB n k)[i]? = some (n / 256 ^ (k - 1 - i) % 256) := by
  induction k generalizing i with
  | zero => omega
  | succ k ih =>
    match i with
    | 0 => simp [putB]
    | i + 1 =>
      rw [putB, List.getElem?_cons_succ, ih i (by omega), show k + 1 - 1 - (i + 1) = k - 1 - i by omega]
def putUpto (n m i : Nat) : List Nat := (List.range m).map fun t => if t < i then n / 256 ^ (m - 1 - t) % 256 else 0
theorem putUpto_zero (n m : Nat) : putUpto n m 0 = List.replicate m 0 := by
  apply List.ext_getElem <;> simp [putUpto]
theorem putUpto_set (n m i : Nat) : (putUpto n m i).set i (n / 256 ^ (m - 1 - i) % 256) = putUpto n m (i + 1) := by
  apply List.ext_getElem
  · simp [putUpto]
  · intro j h1 h2
    rw [List.getElem_set]
    simp only [putUpto, List.getElem_map, List.getElem_range]
    split
    · next h => subst h; simp
    · next h =>
      by_cases h3 : j < i
      · rw [if_pos h3, if_pos (by omega)]
      · rw [if_neg h3, if_neg (by omega)]
theorem putUpto_all (n m : Nat) : putUpto n m m = putB n m := by
  apply List.ext_getElem?
  intro j
  by_cases h : j < m
  · rw [putB_get n m j h]; simp [putUpto, h]
  · rw [List.getElem?_eq_none (by simp [putUpto]; omega), List.getElem?_eq_none (by rw [length_putB]; omega)]
end Go.Proofs.YtaokhkbfiplfmaaGreatDoor
end
section
namespace Go.Proofs.YtaokhkbfiplfmaaGreatDoor

def isN (s : Int) : Bool := decide (0 ≤ s) && decide (s ≤ 39)
end Go.Proofs.YtaokhkbfiplfmaaGreatDoor
end
section
namespace Go.Proofs.YtaokhkbfiplfmaaGreatDoor
end Go.Proofs.YtaokhkbfiplfmaaGreatDoor
end
section
namespace Go.Proofs.YtaokhkbfiplfmaaGreatDoor

/-- A ticket's eleven numbers. -/
structure Tk where
  ser : Int
  kind : Int
  frm : Int
  till : Int
  cls : Int
  card : Int
  seat : Int
  day : Int
  days : Int
  uses : Int
  epoch : Int
def placeB (t : Tk) : Bool := if t.kind = 3 then decide (1 ≤ t.frm) && (decide (t.frm ≤ t.till) && decide (t.till ≤ 6)) else isN t.frm && (isN t.till && (t.frm != t.till))
def usesB (t : Tk) : Bool := if t.kind = 4 then decide (2 ≤ t.uses) && decide (t.uses ≤ 20) else t.uses == t.kind.tmod 3
def numsB (t : Tk) : Bool := decide (1 ≤ t.ser) && (decide (t.ser ≤ 1099511627776) && (decide (1 ≤ t.kind) && (decide (t.kind ≤ 4) && (decide (1 ≤ t.cls) && (decide (t.cls ≤ 2) && (decide (0 ≤ t.card) && (decide (t.card ≤ 3) && (decide (0 ≤ t.seat) && decide (t.seat ≤ 999)))))))))
def daysB (t : Tk) : Bool := decide (0 ≤ t.day) && (decide (t.day ≤ 99999) && (decide (1 ≤ t.days) && (decide (t.days ≤ 999) && (decide (t.day + t.days ≤ 100000) && (decide (0 ≤ t.epoch) && decide (t.epoch ≤ 9))))))
def okT (t : Tk) : Bool := numsB t && (daysB t && (placeB t && usesB t))
theorem numsB_iff (t : Tk) : numsB t = true ↔ 1 ≤ t.ser ∧ t.ser ≤ 1099511627776 ∧ 1 ≤ t.kind ∧ t.kind ≤ 4 ∧ 1 ≤ t.cls ∧ t.cls ≤ 2 ∧ 0 ≤ t.card ∧ t.card ≤ 3 ∧ 0 ≤ t.seat ∧ t.seat ≤ 999 := by simp [numsB]
theorem daysB_iff (t : Tk) : daysB t = true ↔ 0 ≤ t.day ∧ t.day ≤ 99999 ∧ 1 ≤ t.days ∧ t.days ≤ 999 ∧ t.day + t.days ≤ 100000 ∧ 0 ≤ t.epoch ∧ t.epoch ≤ 9 := by simp [daysB]
theorem okT_iff (t : Tk) : okT t = true ↔ numsB t = true ∧ daysB t = true ∧ placeB t = true ∧ usesB t = true := by simp [okT]
theorem uses_of {t : Tk} (h : okT t = true) : (t.kind = 4 → 2 ≤ t.uses ∧ t.uses ≤ 20) ∧ (t.kind ≠ 4 → t.uses = t.kind.tmod 3) := by
  have hu := ((okT_iff t).1 h).2.2.2
  constructor
  · intro hk
    rw [usesB, if_pos hk] at hu
    simpa using hu
  · intro hk
    rw [usesB, if_neg hk] at hu
    simpa using hu
end Go.Proofs.YtaokhkbfiplfmaaGreatDoor
end
section
namespace Go.Proofs.YtaokhkbfiplfmaaGreatDoor
def In64 (x : Int) : Prop := -9223372036854775808 ≤ x ∧ x ≤ 9223372036854775807
end Go.Proofs.YtaokhkbfiplfmaaGreatDoor
end
section
namespace Go.Proofs.YtaokhkbfiplfmaaGreatDoor
set_option linter.unusedVariables false

/-- The least version that has room for a ticket; whether a barcode has room; whether a stripe has. -/
def leastV (t : Tk) : Int := if t.seat ≠ 0 then 3 else if t.card ≠ 0 then 2 else 1
def roomB (t : Tk) (v : Int) : Bool := okT t && (decide (leastV t ≤ v) && decide (v ≤ 3))
def roomS (t : Tk) : Bool := okT t && (decide (t.ser ≤ 9999999) && (t.seat == 0))
theorem roomS_iff (t : Tk) : roomS t = true ↔ okT t = true ∧ t.ser ≤ 9999999 ∧ t.seat = 0 := by simp [roomS]
end Go.Proofs.YtaokhkbfiplfmaaGreatDoor
end
section
namespace Go.Proofs.YtaokhkbfiplfmaaGreatDoor
set_option linter.unusedVariables false

/-- What a stripe says: the ticket, the key's number, the journey, the version. -/
structure Rg where
  t : Tk
  key : Int
  left : Int
  inn : Int
  ver : Int
def zeroR : Rg := ⟨⟨0, 0, 0, 0, 0, 0, 0, 0, 0, 0, 0⟩, 0, 0, 0, 0⟩
end Go.Proofs.YtaokhkbfiplfmaaGreatDoor
end
section
namespace Go.Proofs.YtaokhkbfiplfmaaGreatDoor
set_option linter.unusedVariables false

/-- The lowest k digits of n, the highest one first. -/
def dg (n : Nat) : Nat → List Nat
  | 0 => []
  | k + 1 => n / 10 ^ k % 10 :: dg n k
theorem dg_len (n : Nat) : ∀ k, (dg n k).length = k
  | 0 => rfl
  | k + 1 => by rw [dg, List.length_cons, dg_len n k]
theorem dg_lt (n : Nat) : ∀ k, ∀ x ∈ dg n k, x ≤ 9
  | 0, x, h => by simp [dg] at h
  | k + 1, x, h => by
    rw [dg, List.mem_cons] at h
    rcases h with rfl | h
    · have := Nat.mod_lt (n / 10 ^ k) (show 0 < 10 by omega); omega
    · exact dg_lt n k x h
theorem dg_snoc (n : Nat) : ∀ k, dg n (k + 1) = dg (n / 10) k ++ [n % 10]
  | 0 => by simp [dg]
  | k + 1 => by
    rw [dg, dg_snoc n k, dg, List.cons_append]
    congr 2
    rw [Nat.pow_succ, Nat.mul_comm, Nat.div_div_eq_div_mul]
/-- Behind k rounds: the lowest k digits, zeros ahead of them. -/
def dgTo (n w k : Nat) : List Nat := List.replicate (w - k) 0 ++ dg n k
theorem dgTo_len (n w k : Nat) (h : k ≤ w) : (dgTo n w k).length = w := by rw [dgTo, List.length_append, List.length_replicate, dg_len]; omega
theorem dgTo_zero (n w : Nat) : dgTo n w 0 = List.replicate w 0 := by simp [dgTo, dg]
theorem dgTo_all (n w : Nat) : dgTo n w w = dg n w := by simp [dgTo]
theorem dgTo_set (n w k : Nat) (h : k < w) : (dgTo n w k).set (w - 1 - k) (n / 10 ^ k % 10) = dgTo n w (k + 1) := by
  obtain ⟨m, hm⟩ : ∃ m, m = w - 1 - k := ⟨_, rfl⟩
  rw [dgTo, dgTo, show w - k = m + 1 by omega, show w - (k + 1) = m by omega, ← hm, dg, List.replicate_succ', List.append_assoc, List.set_append_right _ _ (by simp)]
  simp
def valD (l : List Nat) : Nat := l.foldl (fun a x => 10 * a + x) 0
theorem valD_snoc (l : List Nat) (x : Nat) : valD (l ++ [x]) = 10 * valD l + x := by simp [valD]
theorem valD_dg : ∀ (k n : Nat), valD (dg n k) = n % 10 ^ k
  | 0, n => by simp [dg, valD, Nat.mod_one]
  | k + 1, n => by
    rw [dg_snoc, valD_snoc, valD_dg k (n / 10), Nat.pow_succ, Nat.mul_comm (10 ^ k) 10, Nat.mod_mul]; omega
theorem pow_pos10 (k : Nat) : 0 < 10 ^ k := Nat.pow_pos (by omega)

/-- Put: the error, and the digits. -/
def bputE (n w : Int) : Int := if n < 0 ∨ w < 0 ∨ 18 < w then 1 else if 10 ^ w.toNat ≤ n.toNat then 23 else 0
def bputL (n w : Int) : List Nat := if bputE n w = 0 then dg n.toNat w.toNat else []
theorem bput_arg {n w : Int} (h : n < 0 ∨ w < 0 ∨ 18 < w) : bputE n w = 1 ∧ bputL n w = [] := by
  have h1 : bputE n w = 1 := by rw [bputE, if_pos h]
  exact ⟨h1, by rw [bputL, h1, if_neg (by decide)]⟩
theorem bput_over {n w : Nat} (h : w ≤ 18) (h2 : 10 ^ w ≤ n) : bputE n w = 23 ∧ bputL n w = [] := by
  have h1 : bputE n w = 23 := by rw [bputE, if_neg (by omega), if_pos (by simpa using h2)]
  exact ⟨h1, by rw [bputL, h1, if_neg (by decide)]⟩
theorem bput_ok {n w : Nat} (h : w ≤ 18) (h2 : n < 10 ^ w) : bputE n w = 0 ∧ bputL n w = dg n w := by
  have h1 : bputE n w = 0 := by rw [bputE, if_neg (by omega), if_neg (by simpa using h2)]
  exact ⟨h1, by rw [bputL, h1, if_pos rfl]; simp⟩
theorem put_zero {n w : Int} (h : bputE n w = 0) : ∃ N W : Nat, n = N ∧ w = W ∧ W ≤ 18 ∧ N < 10 ^ W ∧ bputL n w = dg N W := by
  by_cases h1 : n < 0 ∨ w < 0 ∨ 18 < w
  · rw [(bput_arg h1).1] at h; cases h
  · by_cases h2 : 10 ^ w.toNat ≤ n.toNat
    · rw [bputE, if_neg h1, if_pos h2] at h; cases h
    · exact ⟨n.toNat, w.toNat, by omega, by omega, by omega, by omega, by rw [bputL, h, if_pos rfl]⟩
theorem put_lt (n w : Int) : ∀ x ∈ bputL n w, x ≤ 9 := by
  intro x hx
  rw [bputL] at hx
  split at hx
  · exact dg_lt _ _ x hx
  · simp at hx
theorem bput_len {n w : Int} (h : bputE n w = 0) : ((bputL n w).length : Int) = w := by
  obtain ⟨N, W, rfl, rfl, _, _, h1⟩ := put_zero h
  rw [h1, dg_len]
theorem put_le (n w : Int) : (bputL n w).length ≤ 18 := by
  by_cases h : bputE n w = 0
  · obtain ⟨N, W, rfl, rfl, hW, _, h1⟩ := put_zero h
    rw [h1, dg_len]; exact hW
  · rw [bputL, if_neg h]; simp

/-- Get: behind the digits that were read, a is the number. -/
def getR : List Nat → Nat → Int × Nat
  | [], a => (0, a)
  | x :: l, a => if 9 < x then (7, 0) else getR l (10 * a + x)
def bgetX (l : List Nat) : Int × Nat := if 18 < l.length then (1, 0) else getR l 0
theorem getR_ok : ∀ (l : List Nat) (a : Nat), (∀ x ∈ l, x ≤ 9) → getR l a = (0, l.foldl (fun a x => 10 * a + x) a)
  | [], a, _ => rfl
  | x :: l, a, h => by
    have := h x (by simp)
    rw [getR, if_neg (by omega), getR_ok l _ (fun y hy => h y (by simp [hy]))]; rfl
theorem getX_ok {l : List Nat} (h : l.length ≤ 18) (h9 : ∀ x ∈ l, x ≤ 9) : bgetX l = (0, valD l) := by rw [bgetX, if_neg (by omega), getR_ok l 0 h9]; rfl
/-- What was put is got again. -/
theorem bput_get {n w : Int} (h : bputE n w = 0) : bgetX (bputL n w) = (0, n.toNat) := by
  obtain ⟨N, W, rfl, rfl, hW, hN, h1⟩ := put_zero h
  rw [h1, getX_ok (by rw [dg_len]; exact hW) (dg_lt _ _), valD_dg, Nat.mod_eq_of_lt hN]; simp
/-- Join: out is what the numbers before gave. -/
def joinR : List Int → List Int → List Nat → Int × List Nat
  | [], _, out => (0, out)
  | v :: vs, ws, out => if bputE v (ws.headD 0) = 0 then joinR vs ws.tail (out ++ bputL v (ws.headD 0)) else (bputE v (ws.headD 0), [])
def joinX (vs ws : List Int) : Int × List Nat := if vs.length ≠ ws.length ∨ 20 < vs.length then (1, []) else joinR vs ws []
/-- The widths' sum, and whether all are. -/
def totR : List Int → Int → Int × Int
  | [], s => (s, 0)
  | w :: ws, s => if 0 ≤ w ∧ w ≤ 18 then totR ws (s + w) else (0, 1)
def totX (ws : List Int) : Int × Int := if 20 < ws.length then (0, 1) else totR ws 0
def cuts : List Nat → List Int → List (List Nat)
  | _, [] => []
  | l, w :: ws => l.take w.toNat :: cuts (l.drop w.toNat) ws
def getsR : List (List Nat) → List Int → Int × List Int
  | [], out => (0, out)
  | p :: ps, out => if (bgetX p).1 = 0 then getsR ps (out ++ [(((bgetX p).2 : Nat) : Int)]) else ((bgetX p).1, [])
def splitX (l : List Nat) (ws : List Int) : Int × List Int := if (totX ws).2 ≠ 0 then ((totX ws).2, []) else if (l.length : Int) ≠ (totX ws).1 then (14, []) else getsR (cuts l ws) []
theorem totR_ok : ∀ (ws : List Int) (s : Int), (totR ws s).2 = 0 → (∀ w ∈ ws, 0 ≤ w ∧ w ≤ 18) ∧ (totR ws s).1 = s + ws.sum
  | [], s, _ => ⟨by simp, by simp [totR]⟩
  | w :: ws, s, h => by
    rw [totR] at h ⊢
    split at h
    · rename_i hw
      rw [if_pos hw]
      obtain ⟨h1, h2⟩ := totR_ok ws (s + w) h
      refine ⟨fun x hx => ?_, by rw [h2, List.sum_cons]; omega⟩
      rw [List.mem_cons] at hx
      rcases hx with rfl | hx
      · exact hw
      · exact h1 x hx
    · cases h
theorem totR_all : ∀ (ws : List Int) (s : Int), (∀ w ∈ ws, 0 ≤ w ∧ w ≤ 18) → totR ws s = (s + ws.sum, 0)
  | [], s, _ => by simp [totR]
  | w :: ws, s, h => by
    rw [totR, if_pos (h w (by simp)), totR_all ws _ (fun x hx => h x (by simp [hx])), List.sum_cons]
    congr 1; omega
theorem totX_ok {ws : List Int} (h : (totX ws).2 = 0) : ws.length ≤ 20 ∧ (∀ w ∈ ws, 0 ≤ w ∧ w ≤ 18) ∧ (totX ws).1 = ws.sum := by
  rw [totX] at h ⊢
  split
  · rename_i h20; rw [if_pos h20] at h; cases h
  · rename_i h20
    rw [if_neg h20] at h
    obtain ⟨h1, h2⟩ := totR_ok ws 0 h
    exact ⟨by omega, h1, by rw [h2]; omega⟩
theorem sum_nat : ∀ (ws : List Int), (∀ w ∈ ws, 0 ≤ w ∧ w ≤ 18) → 0 ≤ ws.sum ∧ ws.sum ≤ 18 * ws.length
  | [], _ => by simp
  | w :: ws, h => by
    have := sum_nat ws (fun x hx => h x (by simp [hx]))
    have := h w (by simp)
    rw [List.sum_cons, List.length_cons]; omega
theorem joinR_zero : ∀ (vs ws : List Int) (out : List Nat), vs.length = ws.length → (joinR vs ws out).1 = 0 →
    (∀ w ∈ ws, 0 ≤ w ∧ w ≤ 18) ∧ ∃ t, (joinR vs ws out).2 = out ++ t ∧ (t.length : Int) = ws.sum ∧ ∀ o, getsR (cuts t ws) o = (0, o ++ vs)
  | [], ws, out, hl, _ => by
    obtain rfl := List.eq_nil_of_length_eq_zero hl.symm
    exact ⟨by simp, [], by simp [joinR], by simp, by simp [cuts, getsR]⟩
  | v :: vs, [], out, hl, _ => by simp at hl
  | v :: vs, w :: ws, out, hl, h => by
    rw [joinR, List.headD_cons, List.tail_cons] at h ⊢
    split at h
    · rename_i h0
      rw [if_pos h0]
      obtain ⟨h1, t, h2, h3, h4⟩ := joinR_zero vs ws _ (by simpa using hl) h
      have hlen := bput_len h0
      obtain ⟨N, W, rfl, rfl, hW, hN, _⟩ := put_zero h0
      refine ⟨fun x hx => ?_, bputL N W ++ t, by rw [h2, List.append_assoc], by rw [List.length_append, List.sum_cons]; omega, fun o => ?_⟩
      · rw [List.mem_cons] at hx
        rcases hx with rfl | hx
        · omega
        · exact h1 x hx
      · have hl2 : (bputL N W).length = W := by omega
        have e1 : (bputL N W ++ t).take (W : Int).toNat = bputL N W := by rw [Int.toNat_natCast]; exact List.take_left' hl2
        have e2 : (bputL N W ++ t).drop (W : Int).toNat = t := by rw [Int.toNat_natCast]; exact List.drop_left' hl2
        rw [cuts, e1, e2, getsR, bput_get h0, if_pos rfl, h4]
        simp
    · rename_i h0; exact (h0 h).elim
/-- What was joined is split. -/
theorem join_split {vs ws : List Int} (h : (joinX vs ws).1 = 0) : splitX (joinX vs ws).2 ws = (0, vs) := by
  rw [joinX] at h ⊢
  split
  · rename_i h1; rw [if_pos h1] at h; cases h
  · rename_i h1
    rw [if_neg h1] at h
    have hl : vs.length = ws.length := by omega
    obtain ⟨h2, t, h3, h4, h5⟩ := joinR_zero vs ws [] hl h
    have ht : totX ws = (ws.sum, 0) := by rw [totX, if_neg (by omega), totR_all ws 0 h2]; congr 1; omega
    rw [splitX, ht, if_neg (by simp), h3, List.nil_append, if_neg (by simpa using h4), h5 []]; rfl
theorem joinR_len : ∀ (vs ws : List Int) (o : List Nat), (joinR vs ws o).2.length ≤ o.length + 18 * vs.length ∧ ((∀ x ∈ o, x ≤ 9) → ∀ x ∈ (joinR vs ws o).2, x ≤ 9)
  | [], ws, o => by simp [joinR]
  | v :: vs, ws, o => by
    rw [joinR]
    split
    · obtain ⟨h1, h2⟩ := joinR_len vs ws.tail (o ++ bputL v (ws.headD 0))
      have := put_le v (ws.headD 0)
      refine ⟨Nat.le_trans h1 (by rw [List.length_append, List.length_cons]; omega), fun ho => h2 (fun x hx => ?_)⟩
      rw [List.mem_append] at hx
      rcases hx with hx | hx
      · exact ho x hx
      · exact put_lt _ _ x hx
    · simp
theorem join_len (vs ws : List Int) : (joinX vs ws).2.length ≤ 360 ∧ ∀ x ∈ (joinX vs ws).2, x ≤ 9 := by
  rw [joinX]
  split
  · simp
  · rename_i h
    obtain ⟨h1, h2⟩ := joinR_len vs ws []
    exact ⟨Nat.le_trans h1 (by simp; omega), h2 (by simp)⟩
theorem drop_at {α : Type} {l : List α} {k : Nat} (h : k < l.length) : l.drop k = l[k] :: l.drop (k + 1) := List.drop_eq_getElem_cons h
end Go.Proofs.YtaokhkbfiplfmaaGreatDoor
end
section
namespace Go.Proofs.YtaokhkbfiplfmaaGreatDoor
set_option linter.unusedVariables false

def suitB (u left inn : Int) : Bool := decide (0 ≤ left) && (decide (left ≤ u) && (decide (0 ≤ inn) && decide (inn ≤ 40)))
theorem suitB_iff (u left inn : Int) : suitB u left inn = true ↔ 0 ≤ left ∧ left ≤ u ∧ 0 ≤ inn ∧ inn ≤ 40 := by simp [suitB]
/-- The widths ahead of the journey's. -/
def widF (k : Int) : List Int := if k = 3 then [1, 7, 1, 1, 5, 3, 1, 1, 1] else if k = 4 then [1, 7, 1, 1, 5, 3, 1, 2, 2, 2] else [1, 7, 1, 1, 5, 3, 1, 2, 2]
def widE (k : Int) : Int := if 1 ≤ k ∧ k ≤ 4 then 0 else 8
def widL (k : Int) : List Int := if 1 ≤ k ∧ k ≤ 4 then widF k ++ [2, 2, 2] else []
/-- The numbers ahead of the journey's. -/
def valF (t : Tk) : List Int := if t.kind = 4 then [t.kind, t.ser, t.cls, t.card, t.day, t.days, t.epoch, t.frm, t.till, t.uses] else [t.kind, t.ser, t.cls, t.card, t.day, t.days, t.epoch, t.frm, t.till]
def valL (r : Rg) : List Int := valF r.t ++ [r.left, r.inn, r.key]
def argB (r : Rg) : Bool := okT r.t && (suitB r.t.uses r.left r.inn && (decide (0 ≤ r.key) && (decide (r.key ≤ 99) && (r.ver == 0))))
theorem argB_iff (r : Rg) : argB r = true ↔ okT r.t = true ∧ suitB r.t.uses r.left r.inn = true ∧ 0 ≤ r.key ∧ r.key ≤ 99 ∧ r.ver = 0 := by simp [argB]
def fitB (r : Rg) : Bool := (r.t.seat == 0) && decide (r.t.ser ≤ 9999999)
theorem fitB_iff (r : Rg) : fitB r = true ↔ r.t.seat = 0 ∧ r.t.ser ≤ 9999999 := by simp [fitB]
def lputX (r : Rg) : Int × List Nat := if argB r = false then (1, []) else if fitB r = false then (18, []) else joinX (valL r) (widL r.t.kind)
/-- What the numbers v of a stripe of kind k say. -/
def toldR (k : Int) (v : List Int) : Rg :=
  if k = 4 then ⟨⟨v.getD 1 0, v.getD 0 0, v.getD 7 0, v.getD 8 0, v.getD 2 0, v.getD 3 0, 0, v.getD 4 0, v.getD 5 0, v.getD 9 0, v.getD 6 0⟩, v.getD 12 0, v.getD 10 0, v.getD 11 0, 0⟩
  else ⟨⟨v.getD 1 0, v.getD 0 0, v.getD 7 0, v.getD 8 0, v.getD 2 0, v.getD 3 0, 0, v.getD 4 0, v.getD 5 0, k.tmod 3, v.getD 6 0⟩, v.getD 11 0, v.getD 9 0, v.getD 10 0, 0⟩
def rightR (r : Rg) : Bool := okT r.t && suitB r.t.uses r.left r.inn
theorem rightR_iff (r : Rg) : rightR r = true ↔ okT r.t = true ∧ suitB r.t.uses r.left r.inn = true := by simp [rightR]
def lgetN (k : Int) (s : Int × List Int) : Int × Rg := if s.1 ≠ 0 then (s.1, zeroR) else if rightR (toldR k s.2) = true then (0, toldR k s.2) else (9, zeroR)
def lgetX : List Nat → Int × Rg
  | [] => (14, zeroR)
  | x :: l => if 9 < x then (7, zeroR) else if widE (x : Int) ≠ 0 then (8, zeroR) else lgetN x (splitX (x :: l) (widL x))
theorem widL_cases (k : Int) (h : 1 ≤ k ∧ k ≤ 4) : ∃ ws, widL k = 1 :: ws := by
  rw [widL, if_pos h, widF]
  split
  · exact ⟨_, rfl⟩
  · split <;> exact ⟨_, rfl⟩
theorem totX_pos {ws : List Int} (h : (totX (1 :: ws)).2 = 0) : 1 ≤ (totX (1 :: ws)).1 := by
  obtain ⟨_, h2, h3⟩ := totX_ok h
  rw [h3, List.sum_cons]
  have := sum_nat ws (fun w hw => h2 w (by simp [hw]))
  omega
theorem getX_one (x : Nat) : bgetX [x] = if 9 < x then (7, 0) else (0, x) := by
  rw [bgetX, if_neg (by simp), getR]
  by_cases h : 9 < x
  · rw [if_pos h, if_pos h]
  · rw [if_neg h, if_neg h, getR]; simp
theorem getsR_out : ∀ (ps : List (List Nat)) (o : List Int), (getsR ps o).1 = 0 → ∃ vs, (getsR ps o).2 = o ++ vs ∧ vs.length = ps.length
  | [], o, _ => ⟨[], by simp [getsR], rfl⟩
  | p :: ps, o, h => by
    rw [getsR] at h ⊢
    by_cases h0 : (bgetX p).1 = 0
    · rw [if_pos h0] at h ⊢
      obtain ⟨vs, h1, h2⟩ := getsR_out ps _ h
      exact ⟨((bgetX p).2 : Nat) :: vs, by rw [h1, List.append_assoc]; rfl, by simp [h2]⟩
    · rw [if_neg h0] at h; exact (h0 h).elim
theorem cutsN_len : ∀ (ws : List Int) (l : List Nat), (cuts l ws).length = ws.length
  | [], _ => rfl
  | w :: ws, l => by rw [cuts, List.length_cons, List.length_cons, cutsN_len ws]
/-- The first number of a split whose first width is 1 is the first digit. -/
theorem split_head {l : List Nat} {ws v : List Int} (h : splitX l (1 :: ws) = (0, v)) : ∃ x q vs, l = x :: q ∧ x ≤ 9 ∧ v = (x : Int) :: vs ∧ vs.length = ws.length := by
  rw [splitX] at h
  by_cases h1 : (totX (1 :: ws)).2 ≠ 0
  · rw [if_pos h1] at h; exact (h1 (Prod.mk.inj h).1).elim
  · rw [if_neg h1] at h
    by_cases h2 : (l.length : Int) ≠ (totX (1 :: ws)).1
    · rw [if_pos h2] at h; exact absurd (Prod.mk.inj h).1 (by decide)
    · rw [if_neg h2] at h
      have h3 := totX_pos (ws := ws) (by omega)
      match l, h with
      | [], _ => simp at h2; omega
      | x :: q, h =>
        rw [cuts, getsR, show (x :: q).take (1 : Int).toNat = [x] from rfl, getX_one] at h
        by_cases hx : 9 < x
        · rw [if_pos hx, if_neg (by decide)] at h; exact absurd (Prod.mk.inj h).1 (by decide)
        · rw [if_neg hx, if_pos rfl] at h
          obtain ⟨vs, h4, h5⟩ := getsR_out _ [(x : Int)] (by have := congrArg Prod.fst h; simpa using this)
          refine ⟨x, q, vs, rfl, by omega, ?_, by rw [h5, cutsN_len]⟩
          have := congrArg Prod.snd h
          simp only [List.nil_append] at this
          rw [← this]
          exact h4
theorem lput_ok {r : Rg} {p : List Nat} (h : lputX r = (0, p)) : argB r = true ∧ fitB r = true ∧ joinX (valL r) (widL r.t.kind) = (0, p) := by
  rw [lputX] at h
  cases ha : argB r with
  | false => rw [ha, if_pos rfl] at h; exact absurd (Prod.mk.inj h).1 (by decide)
  | true =>
    cases hf : fitB r with
    | false => rw [ha, hf, if_neg (by decide), if_pos rfl] at h; exact absurd (Prod.mk.inj h).1 (by decide)
    | true => rw [ha, hf, if_neg (by decide), if_neg (by decide)] at h; exact ⟨rfl, rfl, h⟩
theorem lput_not {r : Rg} {E : Int} {p : List Nat} (h : lputX r = (E, p)) (hE : E ≠ 0) : p = [] := by
  rw [lputX] at h
  split at h
  · exact (Prod.mk.inj h).2.symm
  · split at h
    · exact (Prod.mk.inj h).2.symm
    · rw [joinX] at h
      split at h
      · exact (Prod.mk.inj h).2.symm
      · have : ∀ (vs ws : List Int) (o : List Nat), (joinR vs ws o).1 ≠ 0 → (joinR vs ws o).2 = [] := by
          intro vs
          induction vs with
          | nil => intro ws o h; exact (h rfl).elim
          | cons v vs ih =>
            intro ws o h
            rw [joinR] at h ⊢
            by_cases h0 : bputE v (ws.headD 0) = 0
            · rw [if_pos h0] at h ⊢; exact ih _ _ h
            · rw [if_neg h0]
        have := this _ _ _ (by rw [h]; exact hE)
        rw [h] at this
        exact this
theorem kind_in {t : Tk} (h : okT t = true) : 1 ≤ t.kind ∧ t.kind ≤ 4 := by
  have := (numsB_iff t).1 ((okT_iff t).1 h).1
  omega
theorem told_val {r : Rg} (ha : argB r = true) (hf : fitB r = true) : toldR r.t.kind (valL r) = r := by
  obtain ⟨ho, _, _, _, hv⟩ := (argB_iff r).1 ha
  obtain ⟨hs, _⟩ := (fitB_iff r).1 hf
  have hu := uses_of ho
  obtain ⟨⟨ser, kind, frm, till, cls, card, seat, day, days, uses, epoch⟩, key, left, inn, ver⟩ := r
  simp only at hv hs hu
  subst hv hs
  by_cases h4 : kind = 4
  · subst h4; simp [toldR, valL, valF]
  · obtain rfl := hu.2 h4
    simp [toldR, valL, valF, if_neg h4]
theorem lput_get {r : Rg} {p : List Nat} (h : lputX r = (0, p)) : lgetX p = (0, r) := by
  obtain ⟨ha, hf, hj⟩ := lput_ok h
  obtain ⟨ho, hs, _, _, _⟩ := (argB_iff r).1 ha
  have hk := kind_in ho
  have hsp := join_split (vs := valL r) (ws := widL r.t.kind) (by rw [hj])
  rw [hj] at hsp
  obtain ⟨ws, hw⟩ := widL_cases _ hk
  have hsp2 := hsp
  simp only at hsp2
  rw [hw] at hsp2
  obtain ⟨x, q, vs, rfl, hx, hv, _⟩ := split_head hsp2
  have hkx : r.t.kind = (x : Int) := by
    have : valL r = r.t.kind :: (valL r).tail := by unfold valL valF; split <;> rfl
    rw [this] at hv
    exact (List.cons.inj hv).1
  rw [lgetX, if_neg (by omega), ← hkx, widE, if_pos hk, if_neg (by decide)]
  simp only at hsp
  rw [hsp, lgetN, if_neg (by simp), told_val ha hf, if_pos ((rightR_iff r).2 ⟨ho, hs⟩)]
theorem widL_len {k : Int} (h : 1 ≤ k ∧ k ≤ 4) : (widL k).length = if k = 4 then 13 else 12 := by
  rw [widL, if_pos h, widF]
  by_cases h3 : k = 3
  · rw [if_pos h3, if_neg (by omega)]; rfl
  · rw [if_neg h3]
    by_cases h4 : k = 4
    · rw [if_pos h4, if_pos h4]; rfl
    · rw [if_neg h4, if_neg h4]; rfl
theorem lget_ok {l : List Nat} {r : Rg} (h : lgetX l = (0, r)) : ∃ x q v, l = x :: q ∧ x ≤ 9 ∧ (1 ≤ (x : Int) ∧ (x : Int) ≤ 4) ∧ splitX l (widL x) = (0, v) ∧ r = toldR x v ∧ rightR r = true := by
  match l, h with
  | [], h => exact absurd (Prod.mk.inj h).1 (by decide)
  | x :: q, h =>
    rw [lgetX] at h
    by_cases hx : 9 < x
    · rw [if_pos hx] at h; exact absurd (Prod.mk.inj h).1 (by decide)
    · rw [if_neg hx] at h
      by_cases hw : 1 ≤ (x : Int) ∧ (x : Int) ≤ 4
      · rw [widE, if_pos hw, if_neg (by decide), lgetN] at h
        by_cases hs : (splitX (x :: q) (widL x)).1 ≠ 0
        · rw [if_pos hs] at h; exact (hs (Prod.mk.inj h).1).elim
        · rw [if_neg hs] at h
          by_cases hr : rightR (toldR x (splitX (x :: q) (widL x)).2) = true
          · rw [if_pos hr] at h
            obtain rfl := (Prod.mk.inj h).2
            exact ⟨x, q, _, rfl, by omega, hw, by rw [show (0 : Int) = (splitX (x :: q) (widL x)).1 by omega], rfl, hr⟩
          · rw [if_neg hr] at h; exact absurd (Prod.mk.inj h).1 (by decide)
      · rw [widE, if_neg hw, if_pos (by decide)] at h; exact absurd (Prod.mk.inj h).1 (by decide)
theorem valF_len {t : Tk} (h : 1 ≤ t.kind ∧ t.kind ≤ 4) : (valF t).length = (widF t.kind).length := by
  rw [valF, widF]
  by_cases h4 : t.kind = 4
  · rw [if_pos h4, if_neg (by omega), if_pos h4]; rfl
  · rw [if_neg h4]
    by_cases h3 : t.kind = 3
    · rw [if_pos h3]; rfl
    · rw [if_neg h3, if_neg h4]; rfl
end Go.Proofs.YtaokhkbfiplfmaaGreatDoor
end
section
namespace Go.Proofs.YtaokhkbfiplfmaaGreatDoor

def bit (b : Bool) : Nat := if b = true then 1 else 0
theorem bit_le (b : Bool) : bit b ≤ 1 := by unfold bit; split <;> omega
/-- The number that the k bits from place i on are, the highest first; what lies behind the end is 0. -/
def accB (l : List Bool) (i : Nat) : Nat → Nat
  | 0 => 0
  | k + 1 => 2 * accB l i k + bit (l.getD (i + k) false)
theorem accB_lt (l : List Bool) (i : Nat) : ∀ k, accB l i k < 2 ^ k
  | 0 => by simp [accB]
  | k + 1 => by
    have h := accB_lt l i k
    have hb := bit_le (l.getD (i + k) false)
    rw [accB, Nat.pow_succ]
    omega
/-- The first m bytes of bits. -/
def packN (l : List Bool) (m : Nat) : List Nat := (List.range m).map fun j => accB l (8 * j) 8
theorem packN_len (l : List Bool) (m : Nat) : (packN l m).length = m := by simp [packN]
def packL (l : List Bool) : List Nat := packN l ((l.length + 7) / 8)
theorem packL_len (l : List Bool) : (packL l).length = (l.length + 7) / 8 := packN_len _ _
theorem packL_lt (l : List Bool) : ∀ x ∈ packL l, x < 256 := by
  intro x hx
  simp only [packL, packN, List.mem_map] at hx
  obtain ⟨j, _, rfl⟩ := hx
  exact accB_lt l (8 * j) 8
/-- The first k bits of a byte, the highest first. -/
def bitsOf (x k : Nat) : List Bool := (List.range k).map fun j => x / 2 ^ (7 - j) % 2 == 1
end Go.Proofs.YtaokhkbfiplfmaaGreatDoor
end
section
namespace Go.Proofs.YtaokhkbfiplfmaaGreatDoor

/-- How many of the five lowest bits are 1. -/
def ones5 (n : Nat) : Nat := n % 2 + n / 2 % 2 + n / 4 % 2 + n / 8 % 2 + n / 16 % 2
def isV (v : Int) : Bool := decide (0 ≤ v) && decide (v ≤ 15)
def isC (c : Int) : Bool := decide (0 ≤ c) && decide (c ≤ 31)
theorem isV_iff (v : Int) : isV v = true ↔ 0 ≤ v ∧ v ≤ 15 := by simp [isV]
theorem isC_iff (c : Int) : isC c = true ↔ 0 ≤ c ∧ c ≤ 31 := by simp [isC]
def charV (v : Int) : Int := if isV v = true then (if ones5 v.toNat % 2 = 0 then v + 16 else v) else 0
def charE (v : Int) : Int := if isV v = true then 0 else 1
/-- Five bits. -/
structure B5 where
  b0 : Bool
  b1 : Bool
  b2 : Bool
  b3 : Bool
  b4 : Bool
deriving DecidableEq
def bitB (n i : Nat) : Bool := n / 2 ^ i % 2 == 1
def noB : B5 := ⟨false, false, false, false, false⟩
def bitsB (c : Int) : B5 := if isC c = true then ⟨bitB c.toNat 0, bitB c.toNat 1, bitB c.toNat 2, bitB c.toNat 3, bitB c.toNat 4⟩ else noB
def bitsE (c : Int) : Int := if isC c = true then 0 else 1
def ofB (b : B5) : Int := ((b.b0.toNat + 2 * b.b1.toNat + 4 * b.b2.toNat + 8 * b.b3.toNat + 16 * b.b4.toNat : Nat) : Int)
/-- Are all of them values? -/
def sumOk (l : List Int) : Bool := l.all isV
def sumX (l : List Int) : Nat := l.foldl (fun n x => n ^^^ x.toNat) 0
def sumV (l : List Int) : Int := if sumOk l = true then (sumX l : Int) else 0
def sumE (l : List Int) : Int := if sumOk l = true then 0 else 1
theorem sumX_snoc (l : List Int) (x : Int) : sumX (l ++ [x]) = sumX l ^^^ x.toNat := by simp [sumX, List.foldl_append]
theorem take_snoc {l : List Int} {k : Nat} {x : Int} (h : l[k]? = some x) : l.take (k + 1) = l.take k ++ [x] := by
  rw [List.take_add_one, h]; rfl
theorem sumX_take {l : List Int} {k : Nat} {x : Int} (h : l[k]? = some x) : sumX (l.take (k + 1)) = sumX (l.take k) ^^^ x.toNat := by rw [take_snoc h, sumX_snoc]
theorem foldl_xor (l : List Int) : ∀ a : Nat, l.foldl (fun n x => n ^^^ x.toNat) a = a ^^^ sumX l := by
  induction l with
  | nil => intro a; simp [sumX]
  | cons y l ih =>
    intro a
    show l.foldl _ (a ^^^ y.toNat) = a ^^^ l.foldl _ (0 ^^^ y.toNat)
    rw [ih, ih, Nat.zero_xor, Nat.xor_assoc]
theorem sumX_cons (y : Int) (l : List Int) : sumX (y :: l) = y.toNat ^^^ sumX l := by
  show l.foldl _ (0 ^^^ y.toNat) = _
  rw [foldl_xor, Nat.zero_xor]
theorem sumX_lt (l : List Int) (h : sumOk l = true) : sumX l < 16 := by
  induction l with
  | nil => decide
  | cons y l ih =>
    rw [sumOk, List.all_cons, Bool.and_eq_true] at h
    rw [sumX_cons]
    have := (isV_iff y).1 h.1
    exact Nat.xor_lt_two_pow (n := 4) (by omega) (ih h.2)
theorem sumOk_take {l : List Int} {k : Nat} {x : Int} (hx : l[k]? = some x) : sumOk (l.take (k + 1)) = (sumOk (l.take k) && isV x) := by
  rw [take_snoc hx, sumOk, sumOk, List.all_append]; simp
end Go.Proofs.YtaokhkbfiplfmaaGreatDoor
end
section
namespace Go.Proofs.YtaokhkbfiplfmaaGreatDoor

def charN (v : Nat) : Nat := if ones5 v % 2 = 0 then v + 16 else v
/-- The five bits of a value's character, the lowest first. -/
def cBits (v : Nat) : List Bool := [charN v % 2 == 1, charN v / 2 % 2 == 1, charN v / 4 % 2 == 1, charN v / 8 % 2 == 1, charN v / 16 % 2 == 1]
theorem cBits_len (v : Nat) : (cBits v).length = 5 := rfl
def charsL (vs : List Nat) : List Bool := vs.flatMap cBits
theorem charsL_cons (v : Nat) (vs : List Nat) : charsL (v :: vs) = cBits v ++ charsL vs := by simp [charsL]
theorem charsL_append (a b : List Nat) : charsL (a ++ b) = charsL a ++ charsL b := by simp [charsL]
theorem charsL_len : ∀ vs : List Nat, (charsL vs).length = 5 * vs.length
  | [] => rfl
  | v :: vs => by rw [charsL_cons, List.length_append, cBits_len, charsL_len vs, List.length_cons]; omega
def xorL (vs : List Nat) : Nat := vs.foldl (fun n x => n ^^^ x) 0
theorem foldl_xorN_lt : ∀ (vs : List Nat) (a : Nat), a < 16 → (∀ v ∈ vs, v < 16) → vs.foldl (fun n x => n ^^^ x) a < 16
  | [], a, ha, _ => ha
  | v :: vs, a, ha, h => foldl_xorN_lt vs (a ^^^ v) (Nat.xor_lt_two_pow (n := 4) ha (h v (by simp))) (fun x hx => h x (by simp [hx]))
theorem xorL_lt (vs : List Nat) (h : ∀ v ∈ vs, v < 16) : xorL vs < 16 := foldl_xorN_lt vs 0 (by omega) h
def putVals (d : List Nat) : List Nat := 11 :: (d ++ [15])
def trackV (d : List Nat) : List Nat := putVals d ++ [xorL (putVals d)]
theorem trackV_len (d : List Nat) : (trackV d).length = d.length + 3 := by simp [trackV, putVals]
def digitsOk (d : List Nat) : Bool := d.all fun x => decide (x ≤ 9)
def putE (d : List Nat) : Int := if 77 < d.length then 21 else if digitsOk d = true then 0 else 7
def putL (d : List Nat) : List Nat := if putE d = 0 then packL (charsL (trackV d)) else []
set_option linter.unusedVariables false

theorem accB_congr {a b : List Bool} {i : Nat} : ∀ k, (∀ q, q < k → a.getD (i + q) false = b.getD (i + q) false) → accB a i k = accB b i k
  | 0, _ => rfl
  | k + 1, h => by
    rw [accB, accB, accB_congr k (fun q hq => h q (by omega)), h k (by omega)]
theorem getD_take (l : List Bool) (n i : Nat) : (l.take n).getD i false = if i < n then l.getD i false else false := by
  rw [List.getD_eq_getElem?_getD, List.getElem?_take]
  split
  · rw [List.getD_eq_getElem?_getD]
  · rfl
theorem accB_take (l : List Bool) (i r : Nat) : ∀ s, accB (l.take (i + r)) i (r + s) = accB l i r * 2 ^ s
  | 0 => by
    rw [Nat.pow_zero, Nat.mul_one, Nat.add_zero]
    exact accB_congr r (fun q hq => by rw [getD_take, if_pos (by omega)])
  | s + 1 => by
    rw [← Nat.add_assoc, accB, accB_take l i r s, getD_take, if_neg (by omega), Nat.pow_succ]
    simp only [bit, Bool.false_eq_true, if_false]
    rw [Nat.mul_comm 2, Nat.mul_assoc]
    omega
theorem take_more {l : List Bool} {k i : Nat} (h : i ≠ k) : (l.take (k + 1)).getD i false = (l.take k).getD i false := by
  rw [getD_take, getD_take]
  by_cases h1 : i < k
  · rw [if_pos (by omega), if_pos h1]
  · rw [if_neg (by omega), if_neg h1]
/-- The byte that bit k goes into, ahead of it. -/
def pkOld (l : List Bool) (k : Nat) : Nat := accB l (8 * (k / 8)) (k % 8) * 2 ^ (8 - k % 8)
theorem pk_old (l : List Bool) (k m : Nat) (h : k / 8 < m) : (packN (l.take k) m)[k / 8]? = some (pkOld l k) := by
  have e : 8 * (k / 8) + k % 8 = k := by omega
  have := accB_take l (8 * (k / 8)) (k % 8) (8 - k % 8)
  rw [e, show k % 8 + (8 - k % 8) = 8 by omega] at this
  rw [packN, List.getElem?_map, List.getElem?_range h, Option.map_some, this]
  rfl
theorem pk_step (l : List Bool) (k m : Nat) (h : k / 8 < m) : packN (l.take (k + 1)) m = (packN (l.take k) m).set (k / 8) (pkOld l k + bit (l.getD k false) * 2 ^ (7 - k % 8)) := by
  have e : 8 * (k / 8) + (k % 8 + 1) = k + 1 := by omega
  have h1 := accB_take l (8 * (k / 8)) (k % 8 + 1) (7 - k % 8)
  rw [e, show k % 8 + 1 + (7 - k % 8) = 8 by omega] at h1
  apply List.ext_getElem?
  intro j
  by_cases hj : j < m
  · by_cases hjk : j = k / 8
    · subst hjk
      rw [List.getElem?_set_self (by rw [packN_len]; exact h), packN, List.getElem?_map, List.getElem?_range h, Option.map_some, h1, accB, show 8 * (k / 8) + k % 8 = k by omega, pkOld, show 8 - k % 8 = 7 - k % 8 + 1 by omega, Nat.pow_succ]
      congr 1
      rw [Nat.add_mul, Nat.mul_comm 2, Nat.mul_assoc, Nat.mul_comm 2]
    · rw [List.getElem?_set_ne (by omega), packN, packN, List.getElem?_map, List.getElem?_map, List.getElem?_range hj, Option.map_some, Option.map_some]
      congr 1
      exact accB_congr 8 (fun q hq => take_more (by omega))
  · rw [List.getElem?_eq_none (by rw [packN_len]; omega), List.getElem?_eq_none (by rw [List.length_set, packN_len]; omega)]
theorem pk_zero (l : List Bool) (m : Nat) : packN (l.take 0) m = List.replicate m 0 := by
  have h : ∀ i k, accB [] i k = 0 := by
    intro i k
    induction k with
    | zero => rfl
    | succ k ih => rw [accB, ih]; simp [bit]
  apply List.ext_getElem?
  intro j
  by_cases hj : j < m
  · rw [packN, List.getElem?_map, List.getElem?_range hj, Option.map_some, List.take_zero, h, List.getElem?_replicate, if_pos hj]
  · rw [List.getElem?_eq_none (by rw [packN_len]; omega), List.getElem?_eq_none (by simp; omega)]
theorem pk_bit (l : List Bool) (k : Nat) : ∃ r p, r < 8 ∧ p < 2 ^ r ∧ k % 8 = r ∧ pkOld l k = p * 2 ^ (8 - r) := ⟨k % 8, accB l (8 * (k / 8)) (k % 8), by omega, accB_lt _ _ _, rfl, rfl⟩
end Go.Proofs.YtaokhkbfiplfmaaGreatDoor
end
section
namespace Go.Proofs.YtaokhkbfiplfmaaGreatDoor
end Go.Proofs.YtaokhkbfiplfmaaGreatDoor
end
section
namespace Go.Proofs.YtaokhkbfiplfmaaGreatDoor
end Go.Proofs.YtaokhkbfiplfmaaGreatDoor
end
section
namespace Go.Proofs.YtaokhkbfiplfmaaGreatDoor

/-- A key's four parts: its number, its secret, its days. -/
structure K where
  id : Int
  sec : List Nat
  frm : Int
  til : Int
def K0 : K := ⟨0, [], 0, 0⟩
/-- A key that is right. -/
def rightN (id : Int) (n : Nat) (f t : Int) : Bool := decide (0 ≤ id) && (decide (id ≤ 99) && (decide (1 ≤ n) && (decide (n ≤ 64) && (decide (0 ≤ f) && (decide (f ≤ t) && decide (t ≤ 99999))))))
def K.right (k : K) : Bool := rightN k.id k.sec.length k.frm k.til
theorem rightN_iff (id : Int) (n : Nat) (f t : Int) : rightN id n f t = true ↔ 0 ≤ id ∧ id ≤ 99 ∧ 1 ≤ n ∧ n ≤ 64 ∧ 0 ≤ f ∧ f ≤ t ∧ t ≤ 99999 := by simp [rightN]
end Go.Proofs.YtaokhkbfiplfmaaGreatDoor
end
section
namespace Go.Proofs.YtaokhkbfiplfmaaGreatDoor

/-- Three turns by exclusive or. -/
def threeN (x i j k : Nat) : Nat := itr i x ^^^ itr j x ^^^ itr k x
/-- Two turns and a move, by exclusive or. -/
def twoN (x i j d : Nat) : Nat := itr i x ^^^ itr j x ^^^ x / d
/-- Of the first n bits: f's where e's is 1, else g's. -/
def pk (e f g : Nat) : Nat → Nat
  | 0 => 0
  | i + 1 => pk e f g i + (if e / 2 ^ i % 2 = 1 then f else g) / 2 ^ i % 2 * 2 ^ i
/-- Of the first n bits: what most of three have. -/
def mj (a b c : Nat) : Nat → Nat
  | 0 => 0
  | i + 1 => mj a b c i + if 2 ≤ a / 2 ^ i % 2 + b / 2 ^ i % 2 + c / 2 ^ i % 2 then 2 ^ i else 0

theorem xor_lt32 {a b : Nat} (ha : a < 4294967296) (hb : b < 4294967296) : a ^^^ b < 4294967296 := Nat.xor_lt_two_pow (n := 32) ha hb
theorem sbit_le (x i : Nat) : x / 2 ^ i % 2 ≤ 1 := by omega
theorem pk_lt (e f g n : Nat) : pk e f g n < 2 ^ n := by
  induction n with
  | zero => simp [pk]
  | succ n ih =>
    have h := sbit_le (if e / 2 ^ n % 2 = 1 then f else g) n
    have h2 : (if e / 2 ^ n % 2 = 1 then f else g) / 2 ^ n % 2 * 2 ^ n ≤ 1 * 2 ^ n := Nat.mul_le_mul_right _ h
    rw [pk, Nat.pow_succ]
    omega
theorem mj_lt (a b c n : Nat) : mj a b c n < 2 ^ n := by
  induction n with
  | zero => simp [mj]
  | succ n ih =>
    rw [mj, Nat.pow_succ]
    split <;> omega

/-- A bit more on top. -/
theorem testBit_top (x b n j : Nat) (hx : x < 2 ^ n) (hb : b ≤ 1) : (x + b * 2 ^ n).testBit j = if j < n then x.testBit j else if j = n then decide (b = 1) else false := by
  rw [Nat.add_comm, Nat.mul_comm, Nat.testBit_two_pow_mul_add b hx j]
  split
  · rfl
  · next h =>
    rcases (show b = 0 ∨ b = 1 by omega) with rfl | rfl
    · simp
    · by_cases e : j = n
      · subst e; simp
      · obtain ⟨k, hk⟩ : ∃ k, j - n = k + 1 := ⟨j - n - 1, by omega⟩
        rw [if_neg e, hk, Nat.testBit_succ]
        simp
theorem bit_test (x i : Nat) : decide (x / 2 ^ i % 2 = 1) = x.testBit i := by
  rw [Nat.testBit_eq_decide_div_mod_eq]

theorem testBit_pk (e f g n j : Nat) : (pk e f g n).testBit j = (decide (j < n) && (if e.testBit j then f.testBit j else g.testBit j)) := by
  induction n with
  | zero => simp [pk]
  | succ n ih =>
    rw [pk, testBit_top _ _ _ _ (pk_lt e f g n) (sbit_le _ _), ih]
    by_cases h : j < n
    · simp [h, show j < n + 1 by omega]
    · rw [if_neg h]
      by_cases h2 : j = n
      · subst h2
        rw [if_pos rfl, bit_test]
        simp only [← bit_test e j]
        by_cases h3 : e / 2 ^ j % 2 = 1 <;> simp [h3]
      · rw [if_neg h2]
        simp [show ¬ j < n + 1 by omega]
theorem testBit_mj (a b c n j : Nat) : (mj a b c n).testBit j = (decide (j < n) && ((a.testBit j && b.testBit j) || (a.testBit j && c.testBit j) || (b.testBit j && c.testBit j))) := by
  induction n with
  | zero => simp [mj]
  | succ n ih =>
    have e : (if 2 ≤ a / 2 ^ n % 2 + b / 2 ^ n % 2 + c / 2 ^ n % 2 then 2 ^ n else 0) = (if 2 ≤ a / 2 ^ n % 2 + b / 2 ^ n % 2 + c / 2 ^ n % 2 then 1 else 0) * 2 ^ n := by split <;> simp
    rw [mj, e, testBit_top _ _ _ _ (mj_lt a b c n) (by split <;> omega), ih]
    by_cases h : j < n
    · simp [h, show j < n + 1 by omega]
    · rw [if_neg h]
      by_cases h2 : j = n
      · subst h2
        rw [if_pos rfl, ← bit_test a j, ← bit_test b j, ← bit_test c j]
        rcases (show a / 2 ^ j % 2 = 0 ∨ a / 2 ^ j % 2 = 1 by omega) with ha | ha <;> rcases (show b / 2 ^ j % 2 = 0 ∨ b / 2 ^ j % 2 = 1 by omega) with hb | hb <;> rcases (show c / 2 ^ j % 2 = 0 ∨ c / 2 ^ j % 2 = 1 by omega) with hc | hc <;> simp [ha, hb, hc]
      · rw [if_neg h2]
        simp [show ¬ j < n + 1 by omega]
end Go.Proofs.YtaokhkbfiplfmaaGreatDoor
end
section
namespace Go.Proofs.YtaokhkbfiplfmaaGreatDoor

/-- The table of constants. -/
def kTab : List Nat := [1116352408, 1899447441, 3049323471, 3921009573, 961987163, 1508970993, 2453635748, 2870763221, 3624381080, 310598401, 607225278, 1426881987, 1925078388, 2162078206, 2614888103, 3248222580, 3835390401, 4022224774, 264347078, 604807628, 770255983, 1249150122, 1555081692, 1996064986, 2554220882, 2821834349, 2952996808, 3210313671, 3336571891, 3584528711, 113926993, 338241895, 666307205, 773529912, 1294757372, 1396182291, 1695183700, 1986661051, 2177026350, 2456956037, 2730485921, 2820302411, 3259730800, 3345764771, 3516065817, 3600352804, 4094571909, 275423344, 430227734, 506948616, 659060556, 883997877, 958139571, 1322822218, 1537002063, 1747873779, 1955562222, 2024104815, 2227730452, 2361852424, 2428436474, 2756734187, 3204031479, 3329325298]
theorem length_kTab : kTab.length = 64 := rfl
theorem kTab_lt : ∀ x ∈ kTab, x < 4294967296 := by decide

/-- The word of place t, by the words ahead of it. -/
def wNext (w l : List Nat) (t : Nat) : Nat := if t < 16 then w.getD t 0 else (l.getD (t - 16) 0 + twoN (l.getD (t - 15) 0) 7 18 8 + l.getD (t - 7) 0 + twoN (l.getD (t - 2) 0) 17 19 1024) % 4294967296
/-- The first t words of a block. -/
def wl (w : List Nat) : Nat → List Nat
  | 0 => []
  | t + 1 => wl w t ++ [wNext w (wl w t) t]
theorem length_wl (w : List Nat) (t : Nat) : (wl w t).length = t := by
  induction t with
  | zero => rfl
  | succ t ih => simp [wl, ih]
theorem wl_lt (w : List Nat) (hw : ∀ x ∈ w, x < 4294967296) (t : Nat) : ∀ x ∈ wl w t, x < 4294967296 := by
  induction t with
  | zero => intro x hx; simp [wl] at hx
  | succ t ih =>
    intro x hx
    rw [wl, List.mem_append, List.mem_singleton] at hx
    rcases hx with hx | rfl
    · exact ih x hx
    · unfold wNext
      split
      · rw [List.getD_eq_getElem?_getD]
        rcases h : w[t]? with _ | y
        · simp
        · exact hw y (List.mem_of_getElem? h)
      · omega

/-- Eight words. -/
structure St where
  a : Nat
  b : Nat
  c : Nat
  d : Nat
  e : Nat
  f : Nat
  g : Nat
  h : Nat
def St.ok (v : St) : Prop := v.a < 4294967296 ∧ v.b < 4294967296 ∧ v.c < 4294967296 ∧ v.d < 4294967296 ∧ v.e < 4294967296 ∧ v.f < 4294967296 ∧ v.g < 4294967296 ∧ v.h < 4294967296
def St.list (v : St) : List Nat := [v.a, v.b, v.c, v.d, v.e, v.f, v.g, v.h]
def t1N (v : St) (k w : Nat) : Nat := (v.h + threeN v.e 6 11 25 + pk v.e v.f v.g 32 + k + w) % 4294967296
def t2N (v : St) : Nat := (threeN v.a 2 13 22 + mj v.a v.b v.c 32) % 4294967296
/-- One round. -/
def rnd (v : St) (k w : Nat) : St := ⟨(t1N v k w + t2N v) % 4294967296, v.a, v.b, v.c, (v.d + t1N v k w) % 4294967296, v.e, v.f, v.g⟩
def rnds (v : St) (l : List Nat) : Nat → St
  | 0 => v
  | t + 1 => rnd (rnds v l t) (kTab.getD t 0) (l.getD t 0)
/-- The sums of each place. -/
def sumSt (v h : St) : St := ⟨(v.a + h.a) % 4294967296, (v.b + h.b) % 4294967296, (v.c + h.c) % 4294967296, (v.d + h.d) % 4294967296, (v.e + h.e) % 4294967296, (v.f + h.f) % 4294967296, (v.g + h.g) % 4294967296, (v.h + h.h) % 4294967296⟩
def blockN (h : St) (w : List Nat) : St := sumSt (rnds h (wl w 64) 64) h
theorem rnd_ok {v : St} (h : v.ok) (k w : Nat) : (rnd v k w).ok := by
  obtain ⟨h1, h2, h3, h4, h5, h6, h7, h8⟩ := h
  exact ⟨Nat.mod_lt _ (by omega), h1, h2, h3, Nat.mod_lt _ (by omega), h5, h6, h7⟩
theorem rnds_ok {v : St} (h : v.ok) (l : List Nat) (t : Nat) : (rnds v l t).ok := by
  induction t with
  | zero => exact h
  | succ t ih => exact rnd_ok ih _ _
theorem sumSt_ok (v h : St) : (sumSt v h).ok := ⟨Nat.mod_lt _ (by omega), Nat.mod_lt _ (by omega), Nat.mod_lt _ (by omega), Nat.mod_lt _ (by omega), Nat.mod_lt _ (by omega), Nat.mod_lt _ (by omega), Nat.mod_lt _ (by omega), Nat.mod_lt _ (by omega)⟩
theorem St.list_lt {v : St} (h : v.ok) : ∀ x ∈ v.list, x < 4294967296 := by
  obtain ⟨h1, h2, h3, h4, h5, h6, h7, h8⟩ := h
  intro x hx
  simp only [St.list, List.mem_cons, List.not_mem_nil, or_false] at hx
  rcases hx with rfl | rfl | rfl | rfl | rfl | rfl | rfl | rfl <;> assumption
end Go.Proofs.YtaokhkbfiplfmaaGreatDoor
end
section
namespace Go.Proofs.YtaokhkbfiplfmaaGreatDoor

/-- The digits of n, ten of them, the highest one first. -/
def digit (n i : Nat) : Nat := n / 10 ^ (9 - i) % 10
def dec (n : Nat) : List Nat := (List.range 10).map (digit n)
theorem length_dec (n : Nat) : (dec n).length = 10 := by simp [dec]
theorem digit_lt (n i : Nat) : digit n i < 10 := Nat.mod_lt _ (by decide)
theorem dec_lt10 (n : Nat) : ∀ x ∈ dec n, x < 10 := by
  intro x hx
  simp only [dec, List.mem_map] at hx
  obtain ⟨i, _, rfl⟩ := hx
  exact digit_lt n i
theorem dec_lt (n : Nat) : ∀ x ∈ dec n, x < 256 := fun x hx => Nat.lt_of_lt_of_le (dec_lt10 n x hx) (by decide)
/-- The digits that are laid from behind, i of them. -/
def decUpto (n i : Nat) : List Nat := (List.range 10).map fun t => if 10 ≤ t + i then digit n t else 0
theorem length_decUpto (n i : Nat) : (decUpto n i).length = 10 := by simp [decUpto]
theorem decUpto_zero (n : Nat) : decUpto n 0 = List.replicate 10 0 := by
  apply List.ext_getElem
  · simp [decUpto]
  · intro j h1 h2
    simp only [decUpto, List.length_map, List.length_range] at h1
    rw [List.getElem_replicate]
    simp only [decUpto, List.getElem_map, List.getElem_range]
    rw [if_neg (by omega)]
theorem decUpto_set (n i : Nat) (hi : i < 10) : (decUpto n i).set (9 - i) (n / 10 ^ i % 10) = decUpto n (i + 1) := by
  apply List.ext_getElem
  · simp [decUpto]
  · intro j h1 h2
    simp [decUpto] at h1
    rw [List.getElem_set]
    simp only [decUpto, List.getElem_map, List.getElem_range]
    split
    · next h => subst h; rw [if_pos (by omega), digit, show 9 - (9 - i) = i by omega]
    · next h =>
      by_cases h3 : 10 ≤ j + i
      · rw [if_pos h3, if_pos (by omega)]
      · rw [if_neg h3, if_neg (by omega)]
theorem decUpto_all (n : Nat) : decUpto n 10 = dec n := by
  apply List.ext_getElem
  · simp [decUpto, dec]
  · intro j h1 h2
    simp [decUpto, dec]
end Go.Proofs.YtaokhkbfiplfmaaGreatDoor
end
