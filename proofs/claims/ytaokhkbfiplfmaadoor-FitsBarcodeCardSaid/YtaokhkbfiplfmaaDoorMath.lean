/-
  Plain facts on numbers and lists of numbers for layer 1 (bits): words that are turned, bytes that are words, numbers that are bytes. No memory and no program here.
  Plain facts for layer 7 (line): stations, zones, ways. No memory and no program here.
  Plain facts for layer 8 (fare): prices. No memory and no program here.
  Plain facts for layer 9 (ticket): tickets, what they cover, what they cost. No memory and no program here.
  Numbers that fit an int. No program here.
  Which media a ticket has room on, plainly. No program; conditions: none.
  Plain facts for layer 17 (tlv): fields, right ones, their bytes, what bytes are of fields; numbers as few bytes. No memory and no program here.
  What a stripe or a barcode says: a ticket, a key's number, a journey, a version. No program here.
  Plain facts for layer 18 (fields): the least versions of tags, what a barcode says as fields, and back; that these are one another's. No memory and no program here.
  Bytes as signs, plain.
  Plain facts for layer 5 (ring): keys, rings, and what is found in them. No memory and no program here.
  Plain facts on numbers for layer 2 (sha): words that are mixed bit by bit, the sixty-four words of a block, its sixty-four rounds. No memory and no program here.
  Plain facts on numbers for layer 2's blocks: the table, the sixty-four words, the rounds. No memory and no program here.
-/
import Derived.KernelRfl
section
namespace Go.Proofs.YtaokhkbfiplfmaaDoor

/-- One place further down, what leaves at the end comes in at the front. -/
def stp (x : Nat) : Nat := x / 2 + x % 2 * 2147483648
/-- k places further down. -/
def itr : Nat → Nat → Nat
  | 0, x => x
  | k + 1, x => stp (itr k x)
def rotF (x k : Nat) : Nat := x / 2 ^ k + x % 2 ^ k * 2 ^ (32 - k)

theorem stp_lt {x : Nat} (h : x < 4294967296) : stp x < 4294967296 := by unfold stp; omega
theorem itr_lt (k : Nat) {x : Nat} (h : x < 4294967296) : itr k x < 4294967296 := by
  induction k with
  | zero => exact h
  | succ k ih => exact stp_lt ih

theorem rotF_succ (x k : Nat) (hk : k < 32) : rotF x (k + 1) = stp (rotF x k) := by
  have e1 : 2 ^ (32 - k) = 2 * 2 ^ (32 - (k + 1)) := by rw [show 32 - k = (32 - (k + 1)) + 1 by omega, Nat.pow_succ]; omega
  have e2 : x / 2 ^ (k + 1) = x / 2 ^ k / 2 := by rw [Nat.pow_succ, Nat.div_div_eq_div_mul]
  have e3 : x % 2 ^ (k + 1) = x % 2 ^ k + 2 ^ k * (x / 2 ^ k % 2) := by rw [Nat.pow_succ, Nat.mod_mul]
  have e4 : 2 ^ k * 2 ^ (32 - (k + 1)) = 2147483648 := by rw [← Nat.pow_add, show k + (32 - (k + 1)) = 31 by omega]
  unfold rotF stp
  rw [e1, e2, e3, Nat.add_mul, Nat.mul_assoc, Nat.mul_comm (x / 2 ^ k % 2), ← Nat.mul_assoc, e4]
  have e5 : x % 2 ^ k * (2 * 2 ^ (32 - (k + 1))) = 2 * (x % 2 ^ k * 2 ^ (32 - (k + 1))) := by rw [Nat.mul_left_comm]
  rw [e5]
  generalize x % 2 ^ k * 2 ^ (32 - (k + 1)) = p
  generalize x / 2 ^ k = q
  omega

theorem rotF_zero (x : Nat) : rotF x 0 = x := by unfold rotF; simp [Nat.mod_one]
theorem itr_eq (x k : Nat) (hk : k ≤ 32) : itr k x = rotF x k := by
  induction k with
  | zero => exact (rotF_zero x).symm
  | succ k ih => rw [rotF_succ x k (by omega), ← ih (by omega)]; rfl
/-- What the two shifted words make together. -/
theorem or_rot (x k : Nat) (hx : x < 4294967296) (hk : k < 32) : x / 2 ^ k ||| x * 2 ^ (32 - k) % 4294967296 = itr k x := by
  have e : (4294967296 : Nat) = 2 ^ k * 2 ^ (32 - k) := by rw [← Nat.pow_add, show k + (32 - k) = 32 by omega]
  have hlt : x / 2 ^ k < 2 ^ (32 - k) := by
    rw [Nat.div_lt_iff_lt_mul (Nat.two_pow_pos k), Nat.mul_comm, ← e]; exact hx
  rw [itr_eq x k (by omega), e, Nat.mul_mod_mul_right, Nat.or_comm, Nat.mul_comm, ← Nat.two_pow_add_eq_or_of_lt hlt]
  unfold rotF
  rw [Nat.mul_comm (x % 2 ^ k), Nat.add_comm]

/-- The number that bytes are, the highest one first. -/
def valB (l : List Nat) : Nat := l.foldl (fun a b => a * 256 + b) 0
theorem valB_snoc (l : List Nat) (x : Nat) : valB (l ++ [x]) = valB l * 256 + x := by simp [valB]
theorem foldl_shift (l : List Nat) (a : Nat) : l.foldl (fun a b => a * 256 + b) a = a * 256 ^ l.length + valB l := by
  induction l generalizing a with
  | nil => simp [valB]
  | cons x l ih =>
    rw [List.foldl_cons, ih]
    have e : valB (x :: l) = x * 256 ^ l.length + valB l := by
      show List.foldl _ _ _ = _
      rw [List.foldl_cons, ih]; simp
    rw [e, List.length_cons, Nat.pow_succ, Nat.add_mul, Nat.mul_assoc, Nat.mul_comm 256, Nat.add_assoc]
theorem valB_cons (x : Nat) (l : List Nat) : valB (x :: l) = x * 256 ^ l.length + valB l := by
  show List.foldl _ _ _ = _
  rw [List.foldl_cons, foldl_shift]; simp

theorem valB_lt (l : List Nat) (h : ∀ x ∈ l, x < 256) : valB l < 256 ^ l.length := by
  induction l with
  | nil => simp [valB]
  | cons x l ih =>
    have h1 := ih (fun y hy => h y (by simp [hy]))
    have h2 := h x (by simp)
    rw [valB_cons, List.length_cons, Nat.pow_succ]
    have h3 : x * 256 ^ l.length ≤ 255 * 256 ^ l.length := Nat.mul_le_mul_right _ (by omega)
    omega

/-- The word j of the first i bytes of l. -/
def wordAt (l : List Nat) (i j : Nat) : Nat := valB (((l.take i).drop (4 * j)).take 4)
def wordsUpto (l : List Nat) (m i : Nat) : List Nat := (List.range m).map (wordAt l i)
theorem wordAt_next (l : List Nat) (i : Nat) (hi : i < l.length) : wordAt l (i + 1) (i / 4) = wordAt l i (i / 4) * 256 + l[i] := by
  unfold wordAt
  rw [List.take_succ_eq_append_getElem hi, List.drop_append_of_le_length (by simp; omega), List.take_of_length_le (by simp; omega), List.take_of_length_le (l := (l.take i).drop (4 * (i / 4))) (by simp; omega), valB_snoc]
theorem wordAt_other (l : List Nat) (i j : Nat) (hi : i < l.length) (hj : j ≠ i / 4) : wordAt l (i + 1) j = wordAt l i j := by
  unfold wordAt
  rw [List.take_succ_eq_append_getElem hi]
  by_cases h : j < i / 4
  · rw [List.drop_append_of_le_length (by simp; omega), List.take_append_of_le_length (by simp; omega)]
  · rw [List.drop_eq_nil_of_le (by simp; omega), List.drop_eq_nil_of_le (by simp; omega)]
theorem wordsUpto_set (l : List Nat) (m i : Nat) (hi : i < l.length) : (wordsUpto l m i).set (i / 4) (wordAt l i (i / 4) * 256 + l[i]) = wordsUpto l m (i + 1) := by
  apply List.ext_getElem
  · simp [wordsUpto]
  · intro j h1 h2
    rw [List.getElem_set]
    simp only [wordsUpto, List.getElem_map, List.getElem_range]
    split
    · next h => subst h; rw [wordAt_next l i hi]
    · next h => rw [wordAt_other l i j hi (by omega)]
theorem mem_part {l : List Nat} {i a b x : Nat} (h : x ∈ ((l.take i).drop a).take b) : x ∈ l := List.mem_of_mem_take (List.mem_of_mem_drop (List.mem_of_mem_take h))
theorem wordAt_lt (l : List Nat) (hl : ∀ x ∈ l, x < 256) (i j : Nat) : wordAt l i j < 4294967296 := by
  have h := valB_lt (((l.take i).drop (4 * j)).take 4) (fun x hx => hl x (mem_part hx))
  have h2 : 256 ^ (((l.take i).drop (4 * j)).take 4).length ≤ 256 ^ 4 := Nat.pow_le_pow_right (by omega) (by simp; omega)
  unfold wordAt
  omega
/-- A word that is not whole yet has room for a byte more. -/
theorem wordAt_room (l : List Nat) (hl : ∀ x ∈ l, x < 256) (i : Nat) : wordAt l i (i / 4) < 16777216 := by
  have h := valB_lt (((l.take i).drop (4 * (i / 4))).take 4) (fun x hx => hl x (mem_part hx))
  have h2 : 256 ^ (((l.take i).drop (4 * (i / 4))).take 4).length ≤ 256 ^ 3 := Nat.pow_le_pow_right (by omega) (by simp; omega)
  unfold wordAt
  omega
theorem wordAt_none (l : List Nat) (j : Nat) : wordAt l 0 j = 0 := by simp [wordAt, valB]
theorem wordsUpto_zero (l : List Nat) (m : Nat) : wordsUpto l m 0 = List.replicate m 0 := by
  apply List.ext_getElem
  · simp [wordsUpto]
  · intro j h1 h2
    simp [wordsUpto, wordAt_none]
theorem wordsUpto_get (l : List Nat) (m i j : Nat) (h : j < m) : (wordsUpto l m i)[j]? = some (wordAt l i j) := by simp [wordsUpto, h]

/-- The words of bytes. -/
def wordsOf (l : List Nat) : List Nat := wordsUpto l (l.length / 4) l.length
theorem length_wordsOf (l : List Nat) : (wordsOf l).length = l.length / 4 := by simp [wordsOf, wordsUpto]
theorem wordsOf_lt (l : List Nat) (hl : ∀ x ∈ l, x < 256) : ∀ x ∈ wordsOf l, x < 4294967296 := by
  intro x hx
  simp only [wordsOf, wordsUpto, List.mem_map] at hx
  obtain ⟨j, _, rfl⟩ := hx
  exact wordAt_lt l hl _ _
/-- The byte i of words. -/
def byteAt (ws : List Nat) (i : Nat) : Nat := ws.getD (i / 4) 0 / 2 ^ (8 * (3 - i % 4)) % 256
def bytesUpto (ws : List Nat) (m i : Nat) : List Nat := (List.range m).map fun t => if t < i then byteAt ws t else 0
def bytesOf (ws : List Nat) : List Nat := (List.range (4 * ws.length)).map (byteAt ws)
theorem length_bytesOf (ws : List Nat) : (bytesOf ws).length = 4 * ws.length := by simp [bytesOf]
theorem byteAt_lt (ws : List Nat) (i : Nat) : byteAt ws i < 256 := Nat.mod_lt _ (by omega)
theorem bytesOf_lt (ws : List Nat) : ∀ x ∈ bytesOf ws, x < 256 := by
  intro x hx
  simp only [bytesOf, List.mem_map] at hx
  obtain ⟨j, _, rfl⟩ := hx
  exact byteAt_lt ws j
theorem bytesUpto_zero (ws : List Nat) (m : Nat) : bytesUpto ws m 0 = List.replicate m 0 := by
  apply List.ext_getElem <;> simp [bytesUpto]
theorem bytesUpto_set (ws : List Nat) (m i : Nat) : (bytesUpto ws m i).set i (byteAt ws i) = bytesUpto ws m (i + 1) := by
  apply List.ext_getElem
  · simp [bytesUpto]
  · intro j h1 h2
    rw [List.getElem_set]
    simp only [bytesUpto, List.getElem_map, List.getElem_range]
    split
    · next h => subst h; simp
    · next h => 
      by_cases h3 : j < i
      · rw [if_pos h3, if_pos (by omega)]
      · rw [if_neg h3, if_neg (by omega)]
theorem bytesUpto_all (ws : List Nat) : bytesUpto ws (4 * ws.length) (4 * ws.length) = bytesOf ws := by
  apply List.ext_getElem
  · simp [bytesUpto, bytesOf]
  · intro j h1 h2
    rw [length_bytesOf] at h2
    simp [bytesUpto, bytesOf, h2]
/-- n as size bytes, the highest one first. -/
def putB (n : Nat) : Nat → List Nat
  | 0 => []
  | k + 1 => n / 256 ^ k % 256 :: putB n k
theorem length_putB (n k : Nat) : (putB n k).length = k := by
  induction k with
  | zero => rfl
  | succ k ih => simp [putB, ih]
theorem putB_lt (n k : Nat) : ∀ x ∈ putB n k, x < 256 := by
  induction k with
  | zero => intro x hx; simp [putB] at hx
  | succ k ih =>
    intro x hx
    rcases List.mem_cons.1 hx with rfl | hx
    · exact Nat.mod_lt _ (by omega)
    · exact ih x hx
theorem putB_get (n k i : Nat) (h : i < k) : (putB n k)[i]? = some (n / 256 ^ (k - 1 - i) % 256) := by
  induction k generalizing i with
  | zero => omega
  | succ k ih =>
    match i with
    | 0 => simp [putB]
    | i + 1 =>
      rw [putB, List.getElem?_cons_succ, ih i (by omega), show k + 1 - 1 - (i + 1) = k - 1 - i by omega]
def putUpto (n m i : Nat) : List Nat := (List.range m).map fun t => if t < i then n / 256 ^ (m - 1 - t) % 256 else 0
theorem putUpto_zero (n m : Nat) : putUpto n m 0 = List.replicate m 0 := by
  apply List.ext_getElem <;> simp [putUpto]
theorem putUpto_set (n m i : Nat) : (putUpto n m i).set i (n / 256 ^ (m - 1 - i) % 256) = putUpto n m (i + 1) := by
  apply List.ext_getElem
  · simp [putUpto]
  · intro j h1 h2
    rw [List.getElem_set]
    simp only [putUpto, List.getElem_map, List.getElem_range]
    split
    · next h => subst h; simp
    · next h =>
      by_cases h3 : j < i
      · rw [if_pos h3, if_pos (by omega)]
      · rw [if_neg h3, if_neg (by omega)]
theorem putUpto_all (n m : Nat) : putUpto n m m = putB n m := by
  apply List.ext_getElem?
  intro j
  by_cases h : j < m
  · rw [putB_get n m j h]; simp [putUpto, h]
  · rw [List.getElem?_eq_none (by simp [putUpto]; omega), List.getElem?_eq_none (by rw [length_putB]; omega)]
/-- What was put is got again. -/
theorem valB_putB (n k : Nat) : valB (putB n k) = n % 256 ^ k := by
  induction k with
  | zero => simp [putB, valB, Nat.mod_one]
  | succ k ih => rw [putB, valB_cons, length_putB, ih, Nat.pow_succ, Nat.mod_mul, Nat.mul_comm, Nat.add_comm]
end Go.Proofs.YtaokhkbfiplfmaaDoor
end
section
namespace Go.Proofs.YtaokhkbfiplfmaaDoor

def isN (s : Int) : Bool := decide (0 ≤ s) && decide (s ≤ 39)
end Go.Proofs.YtaokhkbfiplfmaaDoor
end
section
namespace Go.Proofs.YtaokhkbfiplfmaaDoor
end Go.Proofs.YtaokhkbfiplfmaaDoor
end
section
namespace Go.Proofs.YtaokhkbfiplfmaaDoor

/-- A ticket's eleven numbers. -/
structure Tk where
  ser : Int
  kind : Int
  frm : Int
  till : Int
  cls : Int
  card : Int
  seat : Int
  day : Int
  days : Int
  uses : Int
  epoch : Int
def placeB (t : Tk) : Bool := if t.kind = 3 then decide (1 ≤ t.frm) && (decide (t.frm ≤ t.till) && decide (t.till ≤ 6)) else isN t.frm && (isN t.till && (t.frm != t.till))
def usesB (t : Tk) : Bool := if t.kind = 4 then decide (2 ≤ t.uses) && decide (t.uses ≤ 20) else t.uses == t.kind.tmod 3
def numsB (t : Tk) : Bool := decide (1 ≤ t.ser) && (decide (t.ser ≤ 1099511627776) && (decide (1 ≤ t.kind) && (decide (t.kind ≤ 4) && (decide (1 ≤ t.cls) && (decide (t.cls ≤ 2) && (decide (0 ≤ t.card) && (decide (t.card ≤ 3) && (decide (0 ≤ t.seat) && decide (t.seat ≤ 999)))))))))
def daysB (t : Tk) : Bool := decide (0 ≤ t.day) && (decide (t.day ≤ 99999) && (decide (1 ≤ t.days) && (decide (t.days ≤ 999) && (decide (t.day + t.days ≤ 100000) && (decide (0 ≤ t.epoch) && decide (t.epoch ≤ 9))))))
def okT (t : Tk) : Bool := numsB t && (daysB t && (placeB t && usesB t))
theorem numsB_iff (t : Tk) : numsB t = true ↔ 1 ≤ t.ser ∧ t.ser ≤ 1099511627776 ∧ 1 ≤ t.kind ∧ t.kind ≤ 4 ∧ 1 ≤ t.cls ∧ t.cls ≤ 2 ∧ 0 ≤ t.card ∧ t.card ≤ 3 ∧ 0 ≤ t.seat ∧ t.seat ≤ 999 := by simp [numsB]
theorem daysB_iff (t : Tk) : daysB t = true ↔ 0 ≤ t.day ∧ t.day ≤ 99999 ∧ 1 ≤ t.days ∧ t.days ≤ 999 ∧ t.day + t.days ≤ 100000 ∧ 0 ≤ t.epoch ∧ t.epoch ≤ 9 := by simp [daysB]
theorem okT_iff (t : Tk) : okT t = true ↔ numsB t = true ∧ daysB t = true ∧ placeB t = true ∧ usesB t = true := by simp [okT]
theorem way_of {t : Tk} (h : okT t = true) (hk : t.kind ≠ 3) : isN t.frm = true ∧ isN t.till = true ∧ t.frm ≠ t.till := by
  have hp := ((okT_iff t).1 h).2.2.1
  rw [placeB, if_neg hk] at hp
  simpa using hp
theorem zones_of {t : Tk} (h : okT t = true) (hk : t.kind = 3) : 1 ≤ t.frm ∧ t.frm ≤ t.till ∧ t.till ≤ 6 := by
  have hp := ((okT_iff t).1 h).2.2.1
  rw [placeB, if_pos hk] at hp
  simpa using hp
theorem uses_of {t : Tk} (h : okT t = true) : (t.kind = 4 → 2 ≤ t.uses ∧ t.uses ≤ 20) ∧ (t.kind ≠ 4 → t.uses = t.kind.tmod 3) := by
  have hu := ((okT_iff t).1 h).2.2.2
  constructor
  · intro hk
    rw [usesB, if_pos hk] at hu
    simpa using hu
  · intro hk
    rw [usesB, if_neg hk] at hu
    simpa using hu
end Go.Proofs.YtaokhkbfiplfmaaDoor
end
section
namespace Go.Proofs.YtaokhkbfiplfmaaDoor
def In64 (x : Int) : Prop := -9223372036854775808 ≤ x ∧ x ≤ 9223372036854775807
end Go.Proofs.YtaokhkbfiplfmaaDoor
end
section
namespace Go.Proofs.YtaokhkbfiplfmaaDoor
set_option linter.unusedVariables false

/-- The least version that has room for a ticket; whether a barcode has room; whether a stripe has. -/
def leastV (t : Tk) : Int := if t.seat ≠ 0 then 3 else if t.card ≠ 0 then 2 else 1
def roomB (t : Tk) (v : Int) : Bool := okT t && (decide (leastV t ≤ v) && decide (v ≤ 3))
def roomS (t : Tk) : Bool := okT t && (decide (t.ser ≤ 9999999) && (t.seat == 0))
theorem roomB_iff (t : Tk) (v : Int) : roomB t v = true ↔ okT t = true ∧ leastV t ≤ v ∧ v ≤ 3 := by simp [roomB]
theorem leastV_in (t : Tk) : 1 ≤ leastV t ∧ leastV t ≤ 3 := by
  unfold leastV
  split
  · omega
  · split <;> omega
end Go.Proofs.YtaokhkbfiplfmaaDoor
end
section
namespace Go.Proofs.YtaokhkbfiplfmaaDoor

/-- A field: its tag, its value. -/
structure Tf where
  tag : Int
  val : List Nat
def TF0 : Tf := ⟨0, []⟩
/-- A field is right, behind a tag. -/
def okTf (a t : Int) (n : Nat) : Bool := decide (a < t) && (decide (t ≤ 255) && decide (n ≤ 255))
theorem okTf_iff (a t : Int) (n : Nat) : okTf a t n = true ↔ a < t ∧ t ≤ 255 ∧ n ≤ 255 := by simp [okTf]
/-- Fields are right, behind a tag. -/
def isT : Int → List Tf → Bool
  | _, [] => true
  | a, f :: l => okTf a f.tag f.val.length && isT f.tag l
/-- The bytes of fields. -/
def putT : List Tf → List Nat
  | [] => []
  | f :: l => f.tag.toNat :: f.val.length :: (f.val ++ putT l)
/-- The tag of the last one, or what stands ahead. -/
def lastT : Int → List Tf → Int
  | a, [] => a
  | _, f :: l => lastT f.tag l
theorem putT_append (l m : List Tf) : putT (l ++ m) = putT l ++ putT m := by
  induction l with
  | nil => rfl
  | cons f l ih => simp [putT, ih]
theorem isT_append (a : Int) (l m : List Tf) : isT a (l ++ m) = (isT a l && isT (lastT a l) m) := by
  induction l generalizing a with
  | nil => simp [isT, lastT]
  | cons f l ih => simp [isT, lastT, ih, Bool.and_assoc]
theorem lastT_append (a : Int) (l m : List Tf) : lastT a (l ++ m) = lastT (lastT a l) m := by
  induction l generalizing a with
  | nil => rfl
  | cons f l ih => simp [lastT, ih]
theorem isT_weak {a b : Int} {l : List Tf} (hab : b ≤ a) (h : isT a l = true) : isT b l = true := by
  cases l with
  | nil => rfl
  | cons f l =>
    simp only [isT, Bool.and_eq_true] at h ⊢
    obtain ⟨h1, h2, h3⟩ := (okTf_iff _ _ _).1 h.1
    exact ⟨(okTf_iff _ _ _).2 ⟨by omega, h2, h3⟩, h.2⟩
theorem getD_split (l : List Tf) (k : Nat) (h : k < l.length) : l = l.take k ++ (l.getD k TF0 :: l.drop (k + 1)) := by
  rw [List.getD_eq_getElem?_getD, List.getElem?_eq_getElem h, Option.getD_some, List.getElem_cons_drop, List.take_append_drop]
theorem take_snocT (l : List Tf) (k : Nat) (h : k < l.length) : l.take (k + 1) = l.take k ++ [l.getD k TF0] := by
  rw [List.take_succ_eq_append_getElem h, List.getD_eq_getElem?_getD, List.getElem?_eq_getElem h]; rfl
/-- A field that is not right spoils all. -/
theorem isT_bad (l : List Tf) (k : Nat) (h : k < l.length) (hk : okTf (lastT 0 (l.take k)) (l.getD k TF0).tag (l.getD k TF0).val.length = false) : isT 0 l = false := by
  rw [getD_split l k h, isT_append]
  rw [isT, hk]
  simp
theorem isT_step (l : List Tf) (k : Nat) (h : k < l.length) (h0 : isT 0 (l.take k) = true) (hk : okTf (lastT 0 (l.take k)) (l.getD k TF0).tag (l.getD k TF0).val.length = true) : isT 0 (l.take (k + 1)) = true ∧ lastT 0 (l.take (k + 1)) = (l.getD k TF0).tag := by
  rw [take_snocT l k h, isT_append, lastT_append]
  exact ⟨by rw [h0, isT, hk]; rfl, rfl⟩
theorem isT_short {a : Int} {l : List Tf} (h : isT a l = true) (ha : 0 ≤ a) (ha2 : a ≤ 255) : (l.length : Int) ≤ 255 - a ∧ ∀ f ∈ l, f.val.length ≤ 255 ∧ 0 < f.tag ∧ f.tag ≤ 255 := by
  induction l generalizing a with
  | nil => exact ⟨by simp; omega, by simp⟩
  | cons f l ih =>
    simp only [isT, Bool.and_eq_true] at h
    obtain ⟨h1, h2, h3⟩ := (okTf_iff _ _ _).1 h.1
    obtain ⟨i1, i2⟩ := ih h.2 (by omega) h2
    refine ⟨by rw [List.length_cons]; omega, ?_⟩
    intro g hg
    rcases List.mem_cons.1 hg with rfl | hg
    · exact ⟨h3, by omega, h2⟩
    · exact i2 g hg
theorem putT_lt (l : List Tf) (h : ∀ f ∈ l, f.val.length ≤ 255 ∧ 0 < f.tag ∧ f.tag ≤ 255) (hv : ∀ f ∈ l, ∀ x ∈ f.val, x < 256) : ∀ x ∈ putT l, x < 256 := by
  induction l with
  | nil => simp [putT]
  | cons f l ih =>
    obtain ⟨h1, h2, h3⟩ := h f (by simp)
    have hi := ih (fun g hg => h g (by simp [hg])) (fun g hg => hv g (by simp [hg]))
    intro x hx
    simp only [putT, List.mem_cons, List.mem_append] at hx
    rcases hx with rfl | rfl | hx | hx
    · omega
    · omega
    · exact hv f (by simp) x hx
    · exact hi x hx
theorem putT_snoc (l : List Tf) (k : Nat) (h : k < l.length) : putT (l.take (k + 1)) = putT (l.take k) ++ [(l.getD k TF0).tag.toNat, (l.getD k TF0).val.length] ++ (l.getD k TF0).val := by
  rw [take_snocT l k h, putT_append]
  simp [putT]
/-- What Put tells. -/
def outT (l : List Tf) : Nat × List Nat := if isT 0 l = true then (0, putT l) else (1, [])
theorem outT_ok {l : List Tf} (h : isT 0 l = true) : outT l = (0, putT l) := by rw [outT, if_pos h]
theorem outT_bad {l : List Tf} (h : isT 0 l = false) : outT l = (1, []) := by rw [outT, if_neg (by rw [h]; decide)]

/-- How few bytes a number has. -/
def sizeK : Nat → Nat → Nat
  | 0, _ => 0
  | k + 1, n => if n = 0 then 0 else sizeK k (n / 256) + 1
def sizeN (n : Nat) : Nat := sizeK 8 n
theorem sizeK_spec : ∀ (k n : Nat), n < 256 ^ k → sizeK k n ≤ k ∧ n < 256 ^ sizeK k n ∧ (n ≠ 0 → 256 ^ (sizeK k n - 1) ≤ n ∧ 1 ≤ sizeK k n)
  | 0, n, h => by
    have : n = 0 := by simpa using h
    subst this
    exact ⟨Nat.le_refl _, by simp [sizeK], fun h => absurd rfl h⟩
  | k + 1, n, h => by
    by_cases e : n = 0
    · subst e
      simp [sizeK]
    · have hd : n / 256 < 256 ^ k := by
        rw [Nat.div_lt_iff_lt_mul (by omega), ← Nat.pow_succ]; exact h
      obtain ⟨h1, h2, h3⟩ := sizeK_spec k (n / 256) hd
      have es : sizeK (k + 1) n = sizeK k (n / 256) + 1 := by rw [sizeK, if_neg e]
      rw [es]
      refine ⟨by omega, ?_, fun _ => ⟨?_, by omega⟩⟩
      · rw [Nat.pow_succ]
        rwa [Nat.div_lt_iff_lt_mul (by omega)] at h2
      · rw [Nat.add_sub_cancel]
        by_cases e2 : n / 256 = 0
        · have es2 : sizeK k (n / 256) = 0 := by rw [e2]; cases k <;> simp [sizeK]
          rw [es2]; omega
        · obtain ⟨g1, g2⟩ := h3 e2
          obtain ⟨j, hj⟩ : ∃ j, sizeK k (n / 256) = j + 1 := ⟨sizeK k (n / 256) - 1, by omega⟩
          rw [hj, Nat.add_sub_cancel] at g1
          rw [hj, Nat.pow_succ]
          calc 256 ^ j * 256 ≤ n / 256 * 256 := Nat.mul_le_mul_right _ g1
            _ ≤ n := Nat.div_mul_le_self _ _
theorem sizeN_spec {n : Nat} (h : n < 9223372036854775808) : sizeN n ≤ 8 ∧ n < 256 ^ sizeN n ∧ (n ≠ 0 → 256 ^ (sizeN n - 1) ≤ n ∧ 1 ≤ sizeN n) := sizeK_spec 8 n (by omega)
/-- So many bytes: what is left of the number is nothing. -/
theorem sizeN_eq {n k : Nat} (h : n < 9223372036854775808) (h1 : n < 256 ^ k) (h2 : ∀ j, j < k → 256 ^ j ≤ n) : sizeN n = k := by
  obtain ⟨_, s2, s3⟩ := sizeN_spec h
  rcases Nat.lt_trichotomy (sizeN n) k with h4 | h4 | h4
  · have := h2 _ h4
    omega
  · exact h4
  · have hn : n ≠ 0 := by
      intro e
      subst e
      simp [sizeN, sizeK] at h4
    have h5 := (s3 hn).1
    have h6 : 256 ^ k ≤ 256 ^ (sizeN n - 1) := Nat.pow_le_pow_right (by omega) (by omega)
    omega
/-- A number as few bytes. -/
def numB (n : Nat) : List Nat := putB n (sizeN n)
theorem numB_len (n : Nat) : (numB n).length = sizeN n := length_putB _ _
theorem numB_lt (n : Nat) : ∀ x ∈ numB n, x < 256 := putB_lt _ _
/-- The number that bytes are, or the error. -/
def valT (b : List Nat) : Nat × Nat := if b.length = 0 ∨ 7 < b.length ∨ b.getD 0 0 = 0 then (0, 14) else (valB b, 0)
theorem valT_ok {b : List Nat} (h1 : 1 ≤ b.length) (h2 : b.length ≤ 7) (h3 : b.getD 0 0 ≠ 0) : valT b = (valB b, 0) := by rw [valT, if_neg]; omega
theorem putB_head (n k : Nat) (h : 1 ≤ k) : (putB n k).getD 0 0 = n / 256 ^ (k - 1) % 256 := by
  obtain ⟨j, rfl⟩ : ∃ j, k = j + 1 := ⟨k - 1, by omega⟩
  rfl
/-- A number but 0 is told again. -/
theorem valT_num {n : Nat} (h : n < 9223372036854775808) (h0 : n ≠ 0) (h7 : sizeN n ≤ 7) : valT (numB n) = (n, 0) := by
  obtain ⟨_, s2, s3⟩ := sizeN_spec h
  obtain ⟨s4, s5⟩ := s3 h0
  have hh : (numB n).getD 0 0 ≠ 0 := by
    rw [numB, putB_head n _ s5]
    have hd : 1 ≤ n / 256 ^ (sizeN n - 1) := (Nat.le_div_iff_mul_le (Nat.pow_pos (by omega))).2 (by omega)
    have hl : n / 256 ^ (sizeN n - 1) < 256 := by
      rw [Nat.div_lt_iff_lt_mul (Nat.pow_pos (by omega)), Nat.mul_comm, ← Nat.pow_succ, show (sizeN n - 1).succ = sizeN n by omega]
      exact s2
    omega
  rw [valT_ok (by rw [numB_len]; exact s5) (by rw [numB_len]; exact h7) hh, numB, valB_putB, Nat.mod_eq_of_lt s2]
end Go.Proofs.YtaokhkbfiplfmaaDoor
end
section
namespace Go.Proofs.YtaokhkbfiplfmaaDoor
set_option linter.unusedVariables false

/-- What a stripe says: the ticket, the key's number, the journey, the version. -/
structure Rg where
  t : Tk
  key : Int
  left : Int
  inn : Int
  ver : Int
def zeroR : Rg := ⟨⟨0, 0, 0, 0, 0, 0, 0, 0, 0, 0, 0⟩, 0, 0, 0, 0⟩
end Go.Proofs.YtaokhkbfiplfmaaDoor
end
section
namespace Go.Proofs.YtaokhkbfiplfmaaDoor

/-- The least version that tells a tag, and whether there is such a tag. -/
def leastN (t : Int) : Int := if t < 1 ∨ 13 < t then 0 else if t = 8 then 2 else if t = 9 then 3 else 1
def okN (t : Int) : Bool := decide (1 ≤ t) && decide (t ≤ 13)
/-- The numbers of the tags 1 to 13. -/
def numL (r : Rg) : List Int := [r.ver, r.key, r.t.kind, r.t.ser, r.t.frm, r.t.till, r.t.cls, r.t.card, r.t.seat, r.t.day, r.t.days, r.t.uses, r.t.epoch]
/-- The reading of these numbers. -/
def rdL (a : List Int) : Rg := ⟨⟨a.getD 3 0, a.getD 2 0, a.getD 4 0, a.getD 5 0, a.getD 6 0, a.getD 7 0, a.getD 8 0, a.getD 9 0, a.getD 10 0, a.getD 11 0, a.getD 12 0⟩, a.getD 1 0, 0, 0, a.getD 0 0⟩
/-- Without the uses that hang on the kind; with them. -/
def cutU (r : Rg) : Rg := if r.t.kind = 4 then r else { r with t := { r.t with uses := 0 } }
def setU (r : Rg) : Rg := if r.t.kind = 4 then r else { r with t := { r.t with uses := r.t.kind.tmod 3 } }
/-- The tags of numbers but 0, from tag k on; their fields. -/
def tagsF : Nat → List Int → List Nat
  | _, [] => []
  | k, x :: l => (if x = 0 then [] else [k]) ++ tagsF (k + 1) l
def fldF : Nat → List Int → List Tf
  | _, [] => []
  | k, x :: l => (if x = 0 then [] else [⟨k, numB x.toNat⟩]) ++ fldF (k + 1) l
/-- A version tells all these tags. -/
def fitX (v : Int) (ts : List Nat) : Bool := ts.all fun t => decide (leastN t ≤ v)
def argF (r : Rg) : Bool := okT r.t && (decide (0 ≤ r.key) && (decide (r.key ≤ 99) && ((r.left == 0) && ((r.inn == 0) && (decide (1 ≤ r.ver) && decide (r.ver ≤ 3))))))
theorem argF_iff (r : Rg) : argF r = true ↔ okT r.t = true ∧ 0 ≤ r.key ∧ r.key ≤ 99 ∧ r.left = 0 ∧ r.inn = 0 ∧ 1 ≤ r.ver ∧ r.ver ≤ 3 := by simp [argF]
/-- What Put tells. -/
def fdPut (r : Rg) : Nat × List Tf := if argF r = false then (1, []) else if fitX r.ver (tagsF 1 (numL (cutU r))) = false then (18, []) else (0, fldF 1 (numL (cutU r)))
/-- Numbers as fields set them. -/
def fdFill : List Int → List Tf → Nat × List Int
  | a, [] => (0, a)
  | a, f :: l => if 128 ≤ f.tag then (16, a) else if 13 < f.tag then (15, a) else if (valT f.val).2 ≠ 0 then ((valT f.val).2, a) else fdFill (a.set (f.tag.toNat - 1) ((valT f.val).1 : Nat)) l
def z13 : List Int := [0, 0, 0, 0, 0, 0, 0, 0, 0, 0, 0, 0, 0]
def verX (a : List Int) : Bool := decide (1 ≤ a.getD 0 0) && (decide (a.getD 0 0 ≤ 3) && fitX (a.getD 0 0) (tagsF 1 a))
def rightF (r : Rg) : Bool := ((r.t.kind == 4) || (r.t.uses == 0)) && (decide (r.key ≤ 99) && okT (setU r).t)
def fdTold (a : List Int) : Nat × Rg := if verX a = false then (12, zeroR) else if rightF (rdL a) = false then (9, zeroR) else (0, setU (rdL a))
/-- What Get tells. -/
def fdGet (l : List Tf) : Nat × Rg := if isT 0 l = false then (1, zeroR) else if (fdFill z13 l).1 ≠ 0 then ((fdFill z13 l).1, zeroR) else fdTold (fdFill z13 l).2

theorem tagsF_snoc (l : List Int) (x : Int) : ∀ k, tagsF k (l ++ [x]) = tagsF k l ++ (if x = 0 then [] else [k + l.length]) := by
  induction l with
  | nil => intro k; simp [tagsF]
  | cons y l ih => intro k; rw [List.cons_append, tagsF, tagsF, ih, List.append_assoc, List.length_cons, show k + 1 + l.length = k + (l.length + 1) by omega]
theorem take_snocI (l : List Int) (k : Nat) (h : k < l.length) : l.take (k + 1) = l.take k ++ [l.getD k 0] := by
  rw [List.take_succ_eq_append_getElem h, List.getD_eq_getElem?_getD, List.getElem?_eq_getElem h]; rfl
theorem tagsF_take (a : List Int) (j : Nat) (h : j < a.length) : tagsF 1 (a.take (j + 1)) = tagsF 1 (a.take j) ++ (if a.getD j 0 = 0 then [] else [j + 1]) := by
  rw [take_snocI a j h, tagsF_snoc, List.length_take, Nat.min_eq_left (by omega), Nat.add_comm 1 j]
theorem tagsF_mem : ∀ (s : List Int) (k t : Nat), t ∈ tagsF k s → k ≤ t ∧ t < k + s.length ∧ s.getD (t - k) 0 ≠ 0
  | [], k, t, h => by simp [tagsF] at h
  | x :: s, k, t, h => by
    rw [tagsF, List.mem_append] at h
    rcases h with h | h
    · by_cases h0 : x = 0
      · rw [if_pos h0] at h; simp at h
      · rw [if_neg h0] at h
        simp at h
        subst h
        simp [h0]
    · obtain ⟨h1, h2, h3⟩ := tagsF_mem s (k + 1) t h
      refine ⟨by omega, by simp; omega, ?_⟩
      rw [show t - k = (t - (k + 1)) + 1 by omega, List.getD_cons_succ]
      exact h3
theorem tagsF_len : ∀ (s : List Int) (k : Nat), (tagsF k s).length ≤ s.length
  | [], k => by simp [tagsF]
  | x :: s, k => by
    have := tagsF_len s (k + 1)
    rw [tagsF, List.length_append, List.length_cons]
    split <;> simp <;> omega
theorem fldF_len : ∀ (s : List Int) (k : Nat), (fldF k s).length = (tagsF k s).length
  | [], k => rfl
  | x :: s, k => by
    rw [tagsF, fldF, List.length_append, List.length_append, fldF_len s (k + 1)]
    split <;> rfl
/-- Fields of these tags. -/
def fldT (a : List Int) (ts : List Nat) : List Tf := ts.map fun t => ⟨(t : Nat), numB (a.getD (t - 1) 0).toNat⟩
theorem fldT_from (s : List Int) : ∀ (p : List Int), fldT (p ++ s) (tagsF (p.length + 1) s) = fldF (p.length + 1) s := by
  induction s with
  | nil => intro p; rfl
  | cons x s ih =>
    intro p
    have hi := ih (p ++ [x])
    rw [List.append_assoc, List.length_append] at hi
    rw [tagsF, fldF, fldT, List.map_append]
    congr 1
    by_cases h0 : x = 0
    · rw [if_pos h0, if_pos h0]; rfl
    · rw [if_neg h0, if_neg h0]
      simp
theorem fldT_all (a : List Int) : fldT a (tagsF 1 a) = fldF 1 a := fldT_from a []
theorem fldT_snoc (a : List Int) (ts : List Nat) (j t : Nat) (h : ts[j]? = some t) : fldT a (ts.take (j + 1)) = fldT a (ts.take j) ++ [⟨(t : Nat), numB (a.getD (t - 1) 0).toNat⟩] := by
  have hj : j < ts.length := (List.getElem?_eq_some_iff.1 h).1
  have e : ts[j] = t := (List.getElem?_eq_some_iff.1 h).2
  rw [fldT, List.take_succ_eq_append_getElem hj, List.map_append, e]
  rfl
/-- A number that seven bytes tell. -/
def In56 (x : Int) : Prop := 0 ≤ x ∧ x < 72057594037927936
theorem size_in {n : Nat} (h : n < 72057594037927936) : sizeN n ≤ 7 := by
  obtain ⟨h1, _, h3⟩ := sizeN_spec (n := n) (by omega)
  rcases Nat.lt_or_ge (sizeN n) 8 with h4 | h4
  · omega
  · by_cases h0 : n = 0
    · subst h0
      simp [sizeN, sizeK] at h4
    · have h5 := (h3 h0).1
      have : sizeN n = 8 := by omega
      rw [this] at h5
      omega
theorem valT_in {x : Int} (h : In56 x) (h0 : x ≠ 0) : valT (numB x.toNat) = (x.toNat, 0) := by
  obtain ⟨h1, h2⟩ := h
  exact valT_num (by omega) (by omega) (size_in (by omega))
theorem set_next (p : List Int) (n : Nat) (x : Int) : (p ++ List.replicate (n + 1) 0).set p.length x = (p ++ [x]) ++ List.replicate n 0 := by
  induction p with
  | nil => simp [List.replicate_succ]
  | cons y p ih => rw [List.cons_append, List.length_cons, List.set_cons_succ, ih]; simp
theorem fill_fld : ∀ (s p : List Int), p.length + s.length = 13 → (∀ x ∈ s, In56 x) → fdFill (p ++ List.replicate s.length 0) (fldF (p.length + 1) s) = (0, p ++ s)
  | [], p, _, _ => by simp [fldF, fdFill]
  | x :: s, p, hl, hin => by
    rw [List.length_cons] at hl
    have hi := fill_fld s (p ++ [x]) (by rw [List.length_append, List.length_singleton]; omega) (fun y hy => hin y (by simp [hy]))
    rw [List.length_append, List.length_singleton, List.append_assoc p [x] s] at hi
    by_cases h0 : x = 0
    · rw [fldF, if_pos h0, List.nil_append, List.length_cons, List.replicate_succ]
      rw [h0] at hi ⊢
      rw [show p ++ (0 : Int) :: List.replicate s.length 0 = p ++ [0] ++ List.replicate s.length 0 by simp]
      exact hi
    · have hx := hin x (by simp)
      have hv := valT_in hx h0
      rw [fldF, if_neg h0, List.singleton_append, fdFill, if_neg (by show ¬ (128 : Int) ≤ ((p.length + 1 : Nat) : Int); omega), if_neg (by show ¬ (13 : Int) < ((p.length + 1 : Nat) : Int); omega), hv, if_neg (by simp), List.length_cons]
      rw [show (((p.length + 1 : Nat) : Int).toNat - 1) = p.length by omega]
      rw [show (((x.toNat, 0) : Nat × Nat).1 : Int) = x by have := hx.1; simp; omega]
      rw [set_next]
      exact hi
theorem fld_is : ∀ (s : List Int) (k : Nat), k + s.length ≤ 255 → (∀ x ∈ s, In56 x) → isT (k : Int) (fldF (k + 1) s) = true
  | [], k, _, _ => rfl
  | x :: s, k, hl, hin => by
    rw [List.length_cons] at hl
    have hi := fld_is s (k + 1) (by omega) (fun y hy => hin y (by simp [hy]))
    by_cases h0 : x = 0
    · rw [fldF, if_pos h0, List.nil_append]
      exact isT_weak (by omega) hi
    · rw [fldF, if_neg h0, List.singleton_append, isT, Bool.and_eq_true]
      have hx := hin x (by simp)
      have := size_in (n := x.toNat) (by have := hx.2; have := hx.1; omega)
      exact ⟨(okTf_iff _ _ _).2 ⟨by show (k : Int) < ((k + 1 : Nat) : Int); omega, by show ((k + 1 : Nat) : Int) ≤ 255; omega, by rw [numB_len]; omega⟩, hi⟩
theorem numL_rd (r : Rg) (h1 : r.left = 0) (h2 : r.inn = 0) : rdL (numL r) = r := by
  obtain ⟨⟨a0, a1, a2, a3, a4, a5, a6, a7, a8, a9, a10⟩, a11, a12, a13, a14⟩ := r
  simp only at h1 h2
  subst h1 h2
  rfl
theorem numL_len (r : Rg) : (numL r).length = 13 := rfl
theorem isN_in {n : Int} (h : isN n = true) : 0 ≤ n ∧ n ≤ 1000 := by
  simp [isN] at h
  omega
theorem num_in {r : Rg} (h : argF r = true) : ∀ x ∈ numL (cutU r), 0 ≤ x ∧ x ≤ 1099511627776 := by
  obtain ⟨h1, h2, h3, h4, h5, h6, h7⟩ := (argF_iff r).1 h
  have hn := (numsB_iff r.t).1 ((okT_iff r.t).1 h1).1
  have hd := (daysB_iff r.t).1 ((okT_iff r.t).1 h1).2.1
  have hu := uses_of h1
  have hp : (0 ≤ r.t.frm ∧ r.t.frm ≤ 1000) ∧ (0 ≤ r.t.till ∧ r.t.till ≤ 1000) := by
    by_cases hk : r.t.kind = 3
    · have := zones_of h1 hk
      omega
    · obtain ⟨w1, w2, _⟩ := way_of h1 hk
      exact ⟨isN_in w1, isN_in w2⟩
  intro x hx
  unfold cutU at hx
  by_cases hk : r.t.kind = 4
  · rw [if_pos hk] at hx
    have := hu.1 hk
    simp only [numL, List.mem_cons, List.not_mem_nil, or_false] at hx
    omega
  · rw [if_neg hk] at hx
    simp only [numL, List.mem_cons, List.not_mem_nil, or_false] at hx
    omega
theorem cut_ver (r : Rg) : (cutU r).ver = r.ver := by unfold cutU; split <;> rfl
theorem cut_left (r : Rg) : (cutU r).left = r.left := by unfold cutU; split <;> rfl
theorem cut_inn (r : Rg) : (cutU r).inn = r.inn := by unfold cutU; split <;> rfl
theorem cut_key (r : Rg) : (cutU r).key = r.key := by unfold cutU; split <;> rfl
theorem cut_kind (r : Rg) : (cutU r).t.kind = r.t.kind := by unfold cutU; split <;> rfl
theorem set_cut {r : Rg} (h : okT r.t = true) : setU (cutU r) = r := by
  have hu := uses_of h
  unfold setU
  rw [cut_kind]
  unfold cutU
  by_cases hk : r.t.kind = 4
  · rw [if_pos hk, if_pos hk]
  · rw [if_neg hk, if_neg hk]
    have := hu.2 hk
    obtain ⟨⟨a0, a1, a2, a3, a4, a5, a6, a7, a8, a9, a10⟩, a11, a12, a13, a14⟩ := r
    simp only at this ⊢
    rw [this]
theorem cut_uses (r : Rg) : (cutU r).t.kind = 4 ∨ (cutU r).t.uses = 0 := by
  rw [cut_kind]
  unfold cutU
  by_cases hk : r.t.kind = 4
  · exact .inl hk
  · rw [if_neg hk]; exact .inr rfl
theorem fdPut_arg {r : Rg} (h : argF r = false) : fdPut r = (1, []) := by rw [fdPut, if_pos h]
theorem fdPut_fit {r : Rg} (h : argF r = true) (h2 : fitX r.ver (tagsF 1 (numL (cutU r))) = false) : fdPut r = (18, []) := by rw [fdPut, if_neg (by rw [h]; decide), if_pos h2]
theorem fdPut_ok {r : Rg} (h : argF r = true) (h2 : fitX r.ver (tagsF 1 (numL (cutU r))) = true) : fdPut r = (0, fldF 1 (numL (cutU r))) := by rw [fdPut, if_neg (by rw [h]; decide), if_neg (by rw [h2]; decide)]
theorem fdPut_zero {r : Rg} {l : List Tf} (h : fdPut r = (0, l)) : argF r = true ∧ fitX r.ver (tagsF 1 (numL (cutU r))) = true ∧ l = fldF 1 (numL (cutU r)) := by
  cases h1 : argF r with
  | false => rw [fdPut_arg h1] at h; cases h
  | true =>
    cases h2 : fitX r.ver (tagsF 1 (numL (cutU r))) with
    | false => rw [fdPut_fit h1 h2] at h; cases h
    | true => rw [fdPut_ok h1 h2] at h; exact ⟨rfl, rfl, ((Prod.mk.inj h).2).symm⟩
/-- What was put is got again. -/
theorem get_put {r : Rg} {l : List Tf} (h : fdPut r = (0, l)) : isT 0 l = true ∧ fdGet l = (0, r) ∧ l.length ≤ 13 := by
  obtain ⟨h1, h2, h3⟩ := fdPut_zero h
  obtain ⟨a1, a2, a3, a4, a5, a6, a7⟩ := (argF_iff r).1 h1
  have hin : ∀ x ∈ numL (cutU r), In56 x := fun x hx => by have := num_in h1 x hx; exact ⟨this.1, by omega⟩
  have hi : isT 0 l = true := by rw [h3]; exact fld_is (numL (cutU r)) 0 (by rw [numL_len]; omega) hin
  have hf : fdFill z13 l = (0, numL (cutU r)) := by rw [h3]; exact fill_fld (numL (cutU r)) [] (by rw [numL_len]; rfl) hin
  have hr : rdL (numL (cutU r)) = cutU r := numL_rd _ (by rw [cut_left]; exact a4) (by rw [cut_inn]; exact a5)
  have hv : (numL (cutU r)).getD 0 0 = r.ver := cut_ver r
  refine ⟨hi, ?_, by rw [h3, fldF_len]; exact Nat.le_trans (tagsF_len _ _) (by rw [numL_len]; omega)⟩
  rw [fdGet, if_neg (by rw [hi]; decide), hf, if_neg (by simp), fdTold]
  have e1 : verX (numL (cutU r)) = true := by rw [verX, hv, h2]; simp; omega
  have e2 : rightF (rdL (numL (cutU r))) = true := by
    rw [hr, rightF, set_cut a1, a1, cut_key]
    have := cut_uses r
    simp
    exact ⟨this, a3⟩
  simp only [e1, e2, Bool.true_eq_false, if_false]
  rw [hr, set_cut a1]
end Go.Proofs.YtaokhkbfiplfmaaDoor
end
section
namespace Go.Proofs.YtaokhkbfiplfmaaDoor
set_option linter.unusedVariables false

/-- The signs, 0 to 44. -/
def signL : List Nat := [48, 49, 50, 51, 52, 53, 54, 55, 56, 57, 65, 66, 67, 68, 69, 70, 71, 72, 73, 74, 75, 76, 77, 78, 79, 80, 81, 82, 83, 84, 85, 86, 87, 88, 89, 90, 32, 36, 37, 42, 43, 45, 46, 47, 58]
def sg (n : Nat) : Nat := signL.getD n 0
theorem sg_lt' : ∀ n, n < 46 → sg n < 256 := by decide
theorem sg_big {n : Nat} (h : 45 ≤ n) : sg n = 0 := by unfold sg; rw [List.getD_eq_getElem?_getD, List.getElem?_eq_none h]; rfl
theorem sg_lt (n : Nat) : sg n < 256 := by
  rcases Nat.lt_or_ge n 46 with h | h
  · exact sg_lt' n h
  · rw [sg_big (by omega)]; omega
def put3 (n : Nat) : List Nat := [sg (n % 45), sg (n / 45 % 45), sg (n / 2025)]
def put2 (n : Nat) : List Nat := [sg (n % 45), sg (n / 45)]
/-- The signs of a group of one or two bytes. -/
def putG : List Nat → List Nat
  | [a, b] => put3 (a * 256 + b)
  | [a] => put2 a
  | _ => []
/-- The signs of bytes. -/
def putF : List Nat → List Nat
  | a :: b :: r => put3 (a * 256 + b) ++ putF r
  | [a] => put2 a
  | [] => []
theorem put3_lt (n : Nat) : ∀ x ∈ put3 n, x < 256 := by
  intro x hx
  simp only [put3, List.mem_cons, List.not_mem_nil, or_false] at hx
  rcases hx with rfl | rfl | rfl <;> exact sg_lt _
theorem put2_lt (n : Nat) : ∀ x ∈ put2 n, x < 256 := by
  intro x hx
  simp only [put2, List.mem_cons, List.not_mem_nil, or_false] at hx
  rcases hx with rfl | rfl <;> exact sg_lt _
theorem putF_lt : ∀ (l : List Nat), ∀ x ∈ putF l, x < 256
  | [], x, hx => by simp [putF] at hx
  | [a], x, hx => put2_lt a x hx
  | a :: b :: r, x, hx => by
    rw [putF, List.mem_append] at hx
    exact hx.elim (put3_lt _ x) (putF_lt r x)
end Go.Proofs.YtaokhkbfiplfmaaDoor
end
section
namespace Go.Proofs.YtaokhkbfiplfmaaDoor

/-- A key's four parts: its number, its secret, its days. -/
structure K where
  id : Int
  sec : List Nat
  frm : Int
  til : Int
def K0 : K := ⟨0, [], 0, 0⟩
/-- A key that is right. -/
def rightN (id : Int) (n : Nat) (f t : Int) : Bool := decide (0 ≤ id) && (decide (id ≤ 99) && (decide (1 ≤ n) && (decide (n ≤ 64) && (decide (0 ≤ f) && (decide (f ≤ t) && decide (t ≤ 99999))))))
def K.right (k : K) : Bool := rightN k.id k.sec.length k.frm k.til
theorem rightN_iff (id : Int) (n : Nat) (f t : Int) : rightN id n f t = true ↔ 0 ≤ id ∧ id ≤ 99 ∧ 1 ≤ n ∧ n ≤ 64 ∧ 0 ≤ f ∧ f ≤ t ∧ t ≤ 99999 := by simp [rightN]
end Go.Proofs.YtaokhkbfiplfmaaDoor
end
section
namespace Go.Proofs.YtaokhkbfiplfmaaDoor

/-- Three turns by exclusive or. -/
def threeN (x i j k : Nat) : Nat := itr i x ^^^ itr j x ^^^ itr k x
/-- Two turns and a move, by exclusive or. -/
def twoN (x i j d : Nat) : Nat := itr i x ^^^ itr j x ^^^ x / d
/-- Of the first n bits: f's where e's is 1, else g's. -/
def pk (e f g : Nat) : Nat → Nat
  | 0 => 0
  | i + 1 => pk e f g i + (if e / 2 ^ i % 2 = 1 then f else g) / 2 ^ i % 2 * 2 ^ i
/-- Of the first n bits: what most of three have. -/
def mj (a b c : Nat) : Nat → Nat
  | 0 => 0
  | i + 1 => mj a b c i + if 2 ≤ a / 2 ^ i % 2 + b / 2 ^ i % 2 + c / 2 ^ i % 2 then 2 ^ i else 0

theorem xor_lt32 {a b : Nat} (ha : a < 4294967296) (hb : b < 4294967296) : a ^^^ b < 4294967296 := Nat.xor_lt_two_pow (n := 32) ha hb
theorem sbit_le (x i : Nat) : x / 2 ^ i % 2 ≤ 1 := by omega
theorem pk_lt (e f g n : Nat) : pk e f g n < 2 ^ n := by
  induction n with
  | zero => simp [pk]
  | succ n ih =>
    have h := sbit_le (if e / 2 ^ n % 2 = 1 then f else g) n
    have h2 : (if e / 2 ^ n % 2 = 1 then f else g) / 2 ^ n % 2 * 2 ^ n ≤ 1 * 2 ^ n := Nat.mul_le_mul_right _ h
    rw [pk, Nat.pow_succ]
    omega
theorem mj_lt (a b c n : Nat) : mj a b c n < 2 ^ n := by
  induction n with
  | zero => simp [mj]
  | succ n ih =>
    rw [mj, Nat.pow_succ]
    split <;> omega

/-- A bit more on top. -/
theorem testBit_top (x b n j : Nat) (hx : x < 2 ^ n) (hb : b ≤ 1) : (x + b * 2 ^ n).testBit j = if j < n then x.testBit j else if j = n then decide (b = 1) else false := by
  rw [Nat.add_comm, Nat.mul_comm, Nat.testBit_two_pow_mul_add b hx j]
  split
  · rfl
  · next h =>
    rcases (show b = 0 ∨ b = 1 by omega) with rfl | rfl
    · simp
    · by_cases e : j = n
      · subst e; simp
      · obtain ⟨k, hk⟩ : ∃ k, j - n = k + 1 := ⟨j - n - 1, by omega⟩
        rw [if_neg e, hk, Nat.testBit_succ]
        simp
theorem bit_test (x i : Nat) : decide (x / 2 ^ i % 2 = 1) = x.testBit i := by
  rw [Nat.testBit_eq_decide_div_mod_eq]

theorem testBit_pk (e f g n j : Nat) : (pk e f g n).testBit j = (decide (j < n) && (if e.testBit j then f.testBit j else g.testBit j)) := by
  induction n with
  | zero => simp [pk]
  | succ n ih =>
    rw [pk, testBit_top _ _ _ _ (pk_lt e f g n) (sbit_le _ _), ih]
    by_cases h : j < n
    · simp [h, show j < n + 1 by omega]
    · rw [if_neg h]
      by_cases h2 : j = n
      · subst h2
        rw [if_pos rfl, bit_test]
        simp only [← bit_test e j]
        by_cases h3 : e / 2 ^ j % 2 = 1 <;> simp [h3]
      · rw [if_neg h2]
        simp [show ¬ j < n + 1 by omega]
theorem testBit_mj (a b c n j : Nat) : (mj a b c n).testBit j = (decide (j < n) && ((a.testBit j && b.testBit j) || (a.testBit j && c.testBit j) || (b.testBit j && c.testBit j))) := by
  induction n with
  | zero => simp [mj]
  | succ n ih =>
    have e : (if 2 ≤ a / 2 ^ n % 2 + b / 2 ^ n % 2 + c / 2 ^ n % 2 then 2 ^ n else 0) = (if 2 ≤ a / 2 ^ n % 2 + b / 2 ^ n % 2 + c / 2 ^ n % 2 then 1 else 0) * 2 ^ n := by split <;> simp
    rw [mj, e, testBit_top _ _ _ _ (mj_lt a b c n) (by split <;> omega), ih]
    by_cases h : j < n
    · simp [h, show j < n + 1 by omega]
    · rw [if_neg h]
      by_cases h2 : j = n
      · subst h2
        rw [if_pos rfl, ← bit_test a j, ← bit_test b j, ← bit_test c j]
        rcases (show a / 2 ^ j % 2 = 0 ∨ a / 2 ^ j % 2 = 1 by omega) with ha | ha <;> rcases (show b / 2 ^ j % 2 = 0 ∨ b / 2 ^ j % 2 = 1 by omega) with hb | hb <;> rcases (show c / 2 ^ j % 2 = 0 ∨ c / 2 ^ j % 2 = 1 by omega) with hc | hc <;> simp [ha, hb, hc]
      · rw [if_neg h2]
        simp [show ¬ j < n + 1 by omega]
end Go.Proofs.YtaokhkbfiplfmaaDoor
end
section
namespace Go.Proofs.YtaokhkbfiplfmaaDoor

/-- The table of constants. -/
def kTab : List Nat := [1116352408, 1899447441, 3049323471, 3921009573, 961987163, 1508970993, 2453635748, 2870763221, 3624381080, 310598401, 607225278, 1426881987, 1925078388, 2162078206, 2614888103, 3248222580, 3835390401, 4022224774, 264347078, 604807628, 770255983, 1249150122, 1555081692, 1996064986, 2554220882, 2821834349, 2952996808, 3210313671, 3336571891, 3584528711, 113926993, 338241895, 666307205, 773529912, 1294757372, 1396182291, 1695183700, 1986661051, 2177026350, 2456956037, 2730485921, 2820302411, 3259730800, 3345764771, 3516065817, 3600352804, 4094571909, 275423344, 430227734, 506948616, 659060556, 883997877, 958139571, 1322822218, 1537002063, 1747873779, 1955562222, 2024104815, 2227730452, 2361852424, 2428436474, 2756734187, 3204031479, 3329325298]
theorem length_kTab : kTab.length = 64 := rfl
theorem kTab_lt : ∀ x ∈ kTab, x < 4294967296 := by decide

/-- The word of place t, by the words ahead of it. -/
def wNext (w l : List Nat) (t : Nat) : Nat := if t < 16 then w.getD t 0 else (l.getD (t - 16) 0 + twoN (l.getD (t - 15) 0) 7 18 8 + l.getD (t - 7) 0 + twoN (l.getD (t - 2) 0) 17 19 1024) % 4294967296
/-- The first t words of a block. -/
def wl (w : List Nat) : Nat → List Nat
  | 0 => []
  | t + 1 => wl w t ++ [wNext w (wl w t) t]
theorem length_wl (w : List Nat) (t : Nat) : (wl w t).length = t := by
  induction t with
  | zero => rfl
  | succ t ih => simp [wl, ih]
theorem wl_lt (w : List Nat) (hw : ∀ x ∈ w, x < 4294967296) (t : Nat) : ∀ x ∈ wl w t, x < 4294967296 := by
  induction t with
  | zero => intro x hx; simp [wl] at hx
  | succ t ih =>
    intro x hx
    rw [wl, List.mem_append, List.mem_singleton] at hx
    rcases hx with hx | rfl
    · exact ih x hx
    · unfold wNext
      split
      · rw [List.getD_eq_getElem?_getD]
        rcases h : w[t]? with _ | y
        · simp
        · exact hw y (List.mem_of_getElem? h)
      · omega

/-- Eight words. -/
structure St where
  a : Nat
  b : Nat
  c : Nat
  d : Nat
  e : Nat
  f : Nat
  g : Nat
  h : Nat
def St.ok (v : St) : Prop := v.a < 4294967296 ∧ v.b < 4294967296 ∧ v.c < 4294967296 ∧ v.d < 4294967296 ∧ v.e < 4294967296 ∧ v.f < 4294967296 ∧ v.g < 4294967296 ∧ v.h < 4294967296
def St.list (v : St) : List Nat := [v.a, v.b, v.c, v.d, v.e, v.f, v.g, v.h]
def t1N (v : St) (k w : Nat) : Nat := (v.h + threeN v.e 6 11 25 + pk v.e v.f v.g 32 + k + w) % 4294967296
def t2N (v : St) : Nat := (threeN v.a 2 13 22 + mj v.a v.b v.c 32) % 4294967296
/-- One round. -/
def rnd (v : St) (k w : Nat) : St := ⟨(t1N v k w + t2N v) % 4294967296, v.a, v.b, v.c, (v.d + t1N v k w) % 4294967296, v.e, v.f, v.g⟩
def rnds (v : St) (l : List Nat) : Nat → St
  | 0 => v
  | t + 1 => rnd (rnds v l t) (kTab.getD t 0) (l.getD t 0)
/-- The sums of each place. -/
def sumSt (v h : St) : St := ⟨(v.a + h.a) % 4294967296, (v.b + h.b) % 4294967296, (v.c + h.c) % 4294967296, (v.d + h.d) % 4294967296, (v.e + h.e) % 4294967296, (v.f + h.f) % 4294967296, (v.g + h.g) % 4294967296, (v.h + h.h) % 4294967296⟩
def blockN (h : St) (w : List Nat) : St := sumSt (rnds h (wl w 64) 64) h
theorem rnd_ok {v : St} (h : v.ok) (k w : Nat) : (rnd v k w).ok := by
  obtain ⟨h1, h2, h3, h4, h5, h6, h7, h8⟩ := h
  exact ⟨Nat.mod_lt _ (by omega), h1, h2, h3, Nat.mod_lt _ (by omega), h5, h6, h7⟩
theorem rnds_ok {v : St} (h : v.ok) (l : List Nat) (t : Nat) : (rnds v l t).ok := by
  induction t with
  | zero => exact h
  | succ t ih => exact rnd_ok ih _ _
theorem sumSt_ok (v h : St) : (sumSt v h).ok := ⟨Nat.mod_lt _ (by omega), Nat.mod_lt _ (by omega), Nat.mod_lt _ (by omega), Nat.mod_lt _ (by omega), Nat.mod_lt _ (by omega), Nat.mod_lt _ (by omega), Nat.mod_lt _ (by omega), Nat.mod_lt _ (by omega)⟩
theorem St.list_lt {v : St} (h : v.ok) : ∀ x ∈ v.list, x < 4294967296 := by
  obtain ⟨h1, h2, h3, h4, h5, h6, h7, h8⟩ := h
  intro x hx
  simp only [St.list, List.mem_cons, List.not_mem_nil, or_false] at hx
  rcases hx with rfl | rfl | rfl | rfl | rfl | rfl | rfl | rfl <;> assumption
end Go.Proofs.YtaokhkbfiplfmaaDoor
end
