/-
  Plain facts for layer 4 (seal): the bits in which bytes differ, and a number's ten digits. No memory and no program here.
-/
import Derived.Test.YtghepddfjdillaaMath
namespace Go.Proofs.Ytghepddfjdillaa

/-- The bits in which the first k bytes differ. -/
def dn (a b : List Nat) : Nat → Nat
  | 0 => 0
  | k + 1 => dn a b k ||| (a.getD k 0 ^^^ b.getD k 0)
theorem seal_getD_lt {l : List Nat} (h : ∀ x ∈ l, x < 256) (k : Nat) : l.getD k 0 < 256 := by
  rw [List.getD_eq_getElem?_getD]
  rcases Nat.lt_or_ge k l.length with hk | hk
  · rw [List.getElem?_eq_getElem hk]; exact h _ (List.getElem_mem hk)
  · rw [List.getElem?_eq_none hk]; decide
theorem dn_lt {a b : List Nat} (ha : ∀ x ∈ a, x < 256) (hb : ∀ x ∈ b, x < 256) (k : Nat) : dn a b k < 256 := by
  induction k with
  | zero => exact (by decide : 0 < 256)
  | succ k ih => exact Nat.or_lt_two_pow (n := 8) ih (Nat.xor_lt_two_pow (n := 8) (seal_getD_lt ha k) (seal_getD_lt hb k))
theorem or_zero_iff (a b : Nat) : a ||| b = 0 ↔ a = 0 ∧ b = 0 := by
  constructor
  · intro h
    constructor
    · apply Nat.eq_of_testBit_eq; intro i
      have := congrArg (fun z => z.testBit i) h
      simp at this ⊢; exact this.1
    · apply Nat.eq_of_testBit_eq; intro i
      have := congrArg (fun z => z.testBit i) h
      simp at this ⊢; exact this.2
  · rintro ⟨rfl, rfl⟩; rfl
theorem xor_zero_iff (a b : Nat) : a ^^^ b = 0 ↔ a = b := by
  constructor
  · intro h
    apply Nat.eq_of_testBit_eq; intro i
    have := congrArg (fun z => z.testBit i) h
    simpa using this
  · rintro rfl; exact Nat.xor_self a
theorem dn_zero_iff (a b : List Nat) (k : Nat) : dn a b k = 0 ↔ ∀ i, i < k → a.getD i 0 = b.getD i 0 := by
  induction k with
  | zero => simp [dn]
  | succ k ih =>
    rw [dn, or_zero_iff, xor_zero_iff, ih]
    constructor
    · rintro ⟨h1, h2⟩ i hi
      rcases Nat.lt_or_ge i k with h | h
      · exact h1 i h
      · have : i = k := by omega
        subst this; exact h2
    · intro h
      exact ⟨fun i hi => h i (by omega), h k (by omega)⟩
/-- Two rows are told the same just if they are. -/
theorem dn_same (a b : List Nat) : ((a.length == b.length) && (dn a b (min a.length b.length) == 0)) = (a == b) := by
  by_cases hl : a.length = b.length
  · by_cases h : a = b
    · subst h
      have h0 : dn a a (min a.length a.length) = 0 := (dn_zero_iff _ _ _).2 fun _ _ => rfl
      rw [h0]
      simp
    · have h2 : dn a b (min a.length b.length) ≠ 0 := by
        intro h0
        apply h
        have := (dn_zero_iff _ _ _).1 h0
        apply List.ext_getElem hl
        intro i h1 h2
        have h3 := this i (by omega)
        rwa [List.getD_eq_getElem?_getD, List.getD_eq_getElem?_getD, List.getElem?_eq_getElem h1, List.getElem?_eq_getElem h2] at h3
      have e1 : (a == b) = false := by simpa using h
      have e2 : (dn a b (min a.length b.length) == 0) = false := by simpa using h2
      rw [e1, e2, Bool.and_false]
  · have e1 : (a == b) = false := by simp; rintro rfl; exact hl rfl
    have e2 : (a.length == b.length) = false := by simpa using hl
    rw [e1, e2, Bool.false_and]
/-- One byte that differs. -/
theorem dn_set (a : List Nat) (i x k : Nat) (hk : k ≤ a.length) : dn a (a.set i (a.getD i 0 ^^^ x)) k = if i < k then x else 0 := by
  induction k with
  | zero => simp [dn]
  | succ k ih =>
    rw [dn, ih (by omega)]
    have hk' : k < a.length := by omega
    have e1 : a.getD k 0 = a[k] := by rw [List.getD_eq_getElem?_getD, List.getElem?_eq_getElem hk']; rfl
    have e2 : (a.set i (a.getD i 0 ^^^ x)).getD k 0 = if i = k then a.getD i 0 ^^^ x else a[k] := by
      rw [List.getD_eq_getElem?_getD, List.getElem?_eq_getElem (by simpa using hk'), Option.getD_some, List.getElem_set]
    rw [e2]
    by_cases h : i = k
    · subst h
      rw [if_pos rfl, if_neg (by omega), if_pos (by omega), ← Nat.xor_assoc, Nat.xor_self, Nat.zero_xor, Nat.zero_or]
    · rw [if_neg h, e1, Nat.xor_self, Nat.or_zero]
      by_cases h2 : i < k
      · rw [if_pos h2, if_pos (by omega)]
      · rw [if_neg h2, if_neg (by omega)]

/-- The digits of n, ten of them, the highest one first. -/
def digit (n i : Nat) : Nat := n / 10 ^ (9 - i) % 10
def dec (n : Nat) : List Nat := (List.range 10).map (digit n)
theorem length_dec (n : Nat) : (dec n).length = 10 := by simp [dec]
theorem digit_lt (n i : Nat) : digit n i < 10 := Nat.mod_lt _ (by decide)
theorem dec_lt10 (n : Nat) : ∀ x ∈ dec n, x < 10 := by
  intro x hx
  simp only [dec, List.mem_map] at hx
  obtain ⟨i, _, rfl⟩ := hx
  exact digit_lt n i
theorem dec_lt (n : Nat) : ∀ x ∈ dec n, x < 256 := fun x hx => Nat.lt_of_lt_of_le (dec_lt10 n x hx) (by decide)
/-- The digits that are laid from behind, i of them. -/
def decUpto (n i : Nat) : List Nat := (List.range 10).map fun t => if 10 ≤ t + i then digit n t else 0
theorem length_decUpto (n i : Nat) : (decUpto n i).length = 10 := by simp [decUpto]
theorem decUpto_zero (n : Nat) : decUpto n 0 = List.replicate 10 0 := by
  apply List.ext_getElem
  · simp [decUpto]
  · intro j h1 h2
    simp only [decUpto, List.length_map, List.length_range] at h1
    rw [List.getElem_replicate]
    simp only [decUpto, List.getElem_map, List.getElem_range]
    rw [if_neg (by omega)]
theorem decUpto_set (n i : Nat) (hi : i < 10) : (decUpto n i).set (9 - i) (n / 10 ^ i % 10) = decUpto n (i + 1) := by
  apply List.ext_getElem
  · simp [decUpto]
  · intro j h1 h2
    simp [decUpto] at h1
    rw [List.getElem_set]
    simp only [decUpto, List.getElem_map, List.getElem_range]
    split
    · next h => subst h; rw [if_pos (by omega), digit, show 9 - (9 - i) = i by omega]
    · next h =>
      by_cases h3 : 10 ≤ j + i
      · rw [if_pos h3, if_pos (by omega)]
      · rw [if_neg h3, if_neg (by omega)]
theorem decUpto_all (n : Nat) : decUpto n 10 = dec n := by
  apply List.ext_getElem
  · simp [decUpto, dec]
  · intro j h1 h2
    simp [decUpto, dec]
/-- The first k digits. -/
def decTo (n k : Nat) : List Nat := (List.range k).map (digit n)
theorem length_decTo (n k : Nat) : (decTo n k).length = k := by simp [decTo]
theorem decTo_succ (n k : Nat) : decTo n (k + 1) = decTo n k ++ [digit n k] := by simp [decTo, List.range_succ]
theorem dec_at (n k : Nat) (hk : k < 10) : (dec n)[k]? = some (digit n k) := by simp [dec, hk]
/-- The number that the first digits are. -/
theorem digits_step (n k : Nat) (hk : k < 10) : 10 * (n / 10 ^ (10 - k)) + digit n k = n / 10 ^ (10 - (k + 1)) := by
  unfold digit
  rw [show 10 - (k + 1) = 9 - k by omega, show 10 - k = (9 - k) + 1 by omega, Nat.pow_succ, ← Nat.div_div_eq_div_mul]
  generalize n / 10 ^ (9 - k) = q
  omega
theorem ten_by (k : Nat) (hk : k ≤ 9) : 1000000000 / 10 ^ k = 10 ^ (9 - k) := by
  have : (1000000000 : Nat) = 10 ^ (9 - k) * 10 ^ k := by rw [← Nat.pow_add, show 9 - k + k = 9 by omega]
  rw [this, Nat.mul_div_cancel _ (Nat.pow_pos (by decide))]
/-- Unlike numbers have unlike digits. -/
theorem dec_inj (m n : Nat) (hm : m < 4294967296) (hn : n < 4294967296) (h : dec m = dec n) : m = n := by
  have hd : ∀ k, k < 10 → digit m k = digit n k := by
    intro k hk
    have := dec_at m k hk
    rw [h, dec_at n k hk] at this
    exact (Option.some.inj this).symm
  have : ∀ k, k ≤ 10 → m / 10 ^ (10 - k) = n / 10 ^ (10 - k) := by
    intro k
    induction k with
    | zero => intro _; rw [Nat.div_eq_of_lt (by simp; omega), Nat.div_eq_of_lt (by simp; omega)]
    | succ k ih =>
      intro hk
      rw [← digits_step m k (by omega), ← digits_step n k (by omega), ih (by omega), hd k (by omega)]
  simpa using this 10 (by decide)
theorem dec_beq (m n : Nat) (hm : m < 4294967296) (hn : n < 4294967296) : (dec m == dec n) = (m == n) := by
  by_cases h : m = n
  · subst h; simp
  · have : dec m ≠ dec n := fun e => h (dec_inj m n hm hn e)
    rw [(by simpa using h : (m == n) = false)]
    simpa using this
end Go.Proofs.Ytghepddfjdillaa
