/-
  Plain facts for layer 17 (tlv): fields, right ones, their bytes, what bytes are of fields; numbers as few bytes. No memory and no program here.
-/
import Derived.Test.YtaldpioahnbkgaaBase
namespace Go.Proofs.Ytaldpioahnbkgaa

/-- A field: its tag, its value. -/
structure Tf where
  tag : Int
  val : List Nat
def TF0 : Tf := ⟨0, []⟩
/-- A field is right, behind a tag. -/
def okTf (a t : Int) (n : Nat) : Bool := decide (a < t) && (decide (t ≤ 255) && decide (n ≤ 255))
theorem okTf_iff (a t : Int) (n : Nat) : okTf a t n = true ↔ a < t ∧ t ≤ 255 ∧ n ≤ 255 := by simp [okTf]
/-- Fields are right, behind a tag. -/
def isT : Int → List Tf → Bool
  | _, [] => true
  | a, f :: l => okTf a f.tag f.val.length && isT f.tag l
/-- The bytes of fields. -/
def putT : List Tf → List Nat
  | [] => []
  | f :: l => f.tag.toNat :: f.val.length :: (f.val ++ putT l)
/-- The tag of the last one, or what stands ahead. -/
def lastT : Int → List Tf → Int
  | a, [] => a
  | _, f :: l => lastT f.tag l
theorem putT_append (l m : List Tf) : putT (l ++ m) = putT l ++ putT m := by
  induction l with
  | nil => rfl
  | cons f l ih => simp [putT, ih]
theorem isT_append (a : Int) (l m : List Tf) : isT a (l ++ m) = (isT a l && isT (lastT a l) m) := by
  induction l generalizing a with
  | nil => simp [isT, lastT]
  | cons f l ih => simp [isT, lastT, ih, Bool.and_assoc]
theorem lastT_append (a : Int) (l m : List Tf) : lastT a (l ++ m) = lastT (lastT a l) m := by
  induction l generalizing a with
  | nil => rfl
  | cons f l ih => simp [lastT, ih]
theorem isT_last {a : Int} {l : List Tf} (h : isT a l = true) : a ≤ lastT a l ∧ (l ≠ [] → a < lastT a l) ∧ (a ≤ 255 → lastT a l ≤ 255) := by
  induction l generalizing a with
  | nil => exact ⟨Int.le_refl _, fun h => absurd rfl h, fun h => h⟩
  | cons f l ih =>
    simp only [isT, Bool.and_eq_true] at h
    obtain ⟨h1, h2, h3⟩ := (okTf_iff _ _ _).1 h.1
    obtain ⟨i1, _, i3⟩ := ih h.2
    have e : lastT a (f :: l) = lastT f.tag l := rfl
    rw [e]
    exact ⟨by omega, fun _ => by omega, fun _ => i3 h2⟩
theorem isT_weak {a b : Int} {l : List Tf} (hab : b ≤ a) (h : isT a l = true) : isT b l = true := by
  cases l with
  | nil => rfl
  | cons f l =>
    simp only [isT, Bool.and_eq_true] at h ⊢
    obtain ⟨h1, h2, h3⟩ := (okTf_iff _ _ _).1 h.1
    exact ⟨(okTf_iff _ _ _).2 ⟨by omega, h2, h3⟩, h.2⟩
theorem getD_split (l : List Tf) (k : Nat) (h : k < l.length) : l = l.take k ++ (l.getD k TF0 :: l.drop (k + 1)) := by
  rw [List.getD_eq_getElem?_getD, List.getElem?_eq_getElem h, Option.getD_some, List.getElem_cons_drop, List.take_append_drop]
theorem take_snocT (l : List Tf) (k : Nat) (h : k < l.length) : l.take (k + 1) = l.take k ++ [l.getD k TF0] := by
  rw [List.take_succ_eq_append_getElem h, List.getD_eq_getElem?_getD, List.getElem?_eq_getElem h]; rfl
/-- A field that is not right spoils all. -/
theorem isT_bad (l : List Tf) (k : Nat) (h : k < l.length) (hk : okTf (lastT 0 (l.take k)) (l.getD k TF0).tag (l.getD k TF0).val.length = false) : isT 0 l = false := by
  rw [getD_split l k h, isT_append]
  rw [isT, hk]
  simp
theorem isT_step (l : List Tf) (k : Nat) (h : k < l.length) (h0 : isT 0 (l.take k) = true) (hk : okTf (lastT 0 (l.take k)) (l.getD k TF0).tag (l.getD k TF0).val.length = true) : isT 0 (l.take (k + 1)) = true ∧ lastT 0 (l.take (k + 1)) = (l.getD k TF0).tag := by
  rw [take_snocT l k h, isT_append, lastT_append]
  exact ⟨by rw [h0, isT, hk]; rfl, rfl⟩
theorem lastT_at (l : List Tf) (k : Nat) (h : k < l.length) : lastT 0 (l.take (k + 1)) = (l.getD k TF0).tag := by rw [take_snocT l k h, lastT_append]; rfl
theorem isT_short {a : Int} {l : List Tf} (h : isT a l = true) (ha : 0 ≤ a) (ha2 : a ≤ 255) : (l.length : Int) ≤ 255 - a ∧ ∀ f ∈ l, f.val.length ≤ 255 ∧ 0 < f.tag ∧ f.tag ≤ 255 := by
  induction l generalizing a with
  | nil => exact ⟨by simp; omega, by simp⟩
  | cons f l ih =>
    simp only [isT, Bool.and_eq_true] at h
    obtain ⟨h1, h2, h3⟩ := (okTf_iff _ _ _).1 h.1
    obtain ⟨i1, i2⟩ := ih h.2 (by omega) h2
    refine ⟨by rw [List.length_cons]; omega, ?_⟩
    intro g hg
    rcases List.mem_cons.1 hg with rfl | hg
    · exact ⟨h3, by omega, h2⟩
    · exact i2 g hg
theorem putT_len (l : List Tf) (h : ∀ f ∈ l, f.val.length ≤ 255) : (putT l).length ≤ 257 * l.length := by
  induction l with
  | nil => simp [putT]
  | cons f l ih =>
    have h1 := h f (by simp)
    have h2 := ih (fun g hg => h g (by simp [hg]))
    simp only [putT, List.length_cons, List.length_append]
    omega
theorem putT_lt (l : List Tf) (h : ∀ f ∈ l, f.val.length ≤ 255 ∧ 0 < f.tag ∧ f.tag ≤ 255) (hv : ∀ f ∈ l, ∀ x ∈ f.val, x < 256) : ∀ x ∈ putT l, x < 256 := by
  induction l with
  | nil => simp [putT]
  | cons f l ih =>
    obtain ⟨h1, h2, h3⟩ := h f (by simp)
    have hi := ih (fun g hg => h g (by simp [hg])) (fun g hg => hv g (by simp [hg]))
    intro x hx
    simp only [putT, List.mem_cons, List.mem_append] at hx
    rcases hx with rfl | rfl | hx | hx
    · omega
    · omega
    · exact hv f (by simp) x hx
    · exact hi x hx
theorem putT_snoc (l : List Tf) (k : Nat) (h : k < l.length) : putT (l.take (k + 1)) = putT (l.take k) ++ [(l.getD k TF0).tag.toNat, (l.getD k TF0).val.length] ++ (l.getD k TF0).val := by
  rw [take_snocT l k h, putT_append]
  simp [putT]
/-- What Put tells. -/
def outT (l : List Tf) : Nat × List Nat := if isT 0 l = true then (0, putT l) else (1, [])
theorem outT_ok {l : List Tf} (h : isT 0 l = true) : outT l = (0, putT l) := by rw [outT, if_pos h]
theorem outT_bad {l : List Tf} (h : isT 0 l = false) : outT l = (1, []) := by rw [outT, if_neg (by rw [h]; decide)]

/-- What bytes are of fields, behind a tag: fuel, tag, bytes. -/
def getT : Nat → Nat → List Nat → Nat × List Tf
  | 0, _, _ => (0, [])
  | _ + 1, _, [] => (0, [])
  | _ + 1, _, [_] => (14, [])
  | k + 1, a, t :: n :: r =>
    if t ≤ a then (13, [])
    else if r.length < n then (14, [])
    else ((getT k t (r.drop n)).1, if (getT k t (r.drop n)).1 = 0 then ⟨t, r.take n⟩ :: (getT k t (r.drop n)).2 else [])
/-- What Get tells. -/
def gotT (b : List Nat) : Nat × List Tf := getT b.length 0 b
/-- Fields ahead of what is told. -/
def preT (l : List Tf) (q : Nat × List Tf) : Nat × List Tf := (q.1, if q.1 = 0 then l ++ q.2 else [])
theorem preT_nil {k a : Nat} {b : List Nat} : preT [] (getT k a b) = getT k a b := by
  have h : (getT k a b).1 ≠ 0 → (getT k a b).2 = [] := by
    match k, b with
    | 0, _ => intro h; exact absurd rfl h
    | _ + 1, [] => intro h; exact absurd rfl h
    | _ + 1, [_] => intro _; rfl
    | k + 1, t :: n :: r =>
      unfold getT
      split
      · intro _; rfl
      · split
        · intro _; rfl
        · intro h; simp only at h ⊢; rw [if_neg h]
  rw [preT]
  by_cases e : (getT k a b).1 = 0
  · rw [if_pos e, List.nil_append]
  · rw [if_neg e, ← h e]
theorem getT_end (k a : Nat) : getT k a [] = (0, []) := by cases k <;> rfl
theorem getT_one {k a x : Nat} (h : 1 ≤ k) : getT k a [x] = (14, []) := by
  obtain ⟨j, rfl⟩ : ∃ j, k = j + 1 := ⟨k - 1, by omega⟩
  rfl
theorem getT_order {k a t n : Nat} {r : List Nat} (h : 1 ≤ k) (ht : t ≤ a) : getT k a (t :: n :: r) = (13, []) := by
  obtain ⟨j, rfl⟩ : ∃ j, k = j + 1 := ⟨k - 1, by omega⟩
  rw [getT, if_pos ht]
theorem getT_over {k a t n : Nat} {r : List Nat} (h : 1 ≤ k) (ht : a < t) (hn : r.length < n) : getT k a (t :: n :: r) = (14, []) := by
  obtain ⟨j, rfl⟩ : ∃ j, k = j + 1 := ⟨k - 1, by omega⟩
  rw [getT, if_neg (by omega), if_pos hn]
theorem getT_step {k a t n : Nat} {r : List Nat} (ht : a < t) (hn : n ≤ r.length) (acc : List Tf) : preT acc (getT (k + 1) a (t :: n :: r)) = preT (acc ++ [⟨t, r.take n⟩]) (getT k t (r.drop n)) := by
  rw [getT, if_neg (by omega), if_neg (by omega)]
  simp only [preT]
  by_cases e : (getT k t (r.drop n)).1 = 0
  · simp [e]
  · simp [e]
theorem preT_bad (acc : List Tf) {e : Nat} (h : e ≠ 0) : preT acc (e, []) = (e, []) := by simp [preT, h]
theorem preT_end (acc : List Tf) : preT acc (0, []) = (0, acc) := by simp [preT]
/-- What was put is got again. -/
theorem getT_put : ∀ (l : List Tf) (k a : Nat), isT (a : Int) l = true → (putT l).length ≤ k → getT k a (putT l) = (0, l)
  | [], k, a, _, _ => getT_end k a
  | f :: l, k, a, h, hk => by
    simp only [isT, Bool.and_eq_true] at h
    obtain ⟨h1, h2, h3⟩ := (okTf_iff _ _ _).1 h.1
    have ht : ((f.tag.toNat : Nat) : Int) = f.tag := by omega
    simp only [putT, List.length_cons, List.length_append] at hk
    obtain ⟨j, rfl⟩ : ∃ j, k = j + 1 := ⟨k - 1, by omega⟩
    have hi := getT_put l j f.tag.toNat (by rw [ht]; exact h.2) (by omega)
    rw [putT, getT, if_neg (by omega), if_neg (by rw [List.length_append]; omega), List.drop_left, List.take_left, hi, ht]
    simp
theorem gotT_put {l : List Tf} (h : isT 0 l = true) : gotT (putT l) = (0, l) := getT_put l _ 0 (by simpa using h) (Nat.le_refl _)
/-- What was got is right, and put as it was. -/
theorem putT_get : ∀ (k a : Nat) (b : List Nat) (l : List Tf), b.length ≤ k → (∀ x ∈ b, x < 256) → getT k a b = (0, l) → isT (a : Int) l = true ∧ putT l = b
  | 0, a, b, l, hb, _, h => by
    obtain rfl : b = [] := List.eq_nil_of_length_eq_zero (by omega)
    rw [getT] at h
    cases h
    exact ⟨rfl, rfl⟩
  | k + 1, a, [], l, _, _, h => by
    rw [getT] at h
    cases h
    exact ⟨rfl, rfl⟩
  | k + 1, a, [x], l, _, _, h => by
    rw [getT] at h
    cases h
  | k + 1, a, t :: n :: r, l, hb, hx, h => by
    rw [getT] at h
    by_cases h1 : t ≤ a
    · rw [if_pos h1] at h; cases h
    · rw [if_neg h1] at h
      by_cases h2 : r.length < n
      · rw [if_pos h2] at h; cases h
      · rw [if_neg h2] at h
        obtain ⟨e1, e2⟩ := Prod.mk.inj h
        rw [if_pos e1] at e2
        have hr : ∀ x ∈ r.drop n, x < 256 := fun x hm => hx x (by simp [List.mem_of_mem_drop hm])
        simp only [List.length_cons] at hb
        obtain ⟨i1, i2⟩ := putT_get k t (r.drop n) (getT k t (r.drop n)).2 (by rw [List.length_drop]; omega) hr (by rw [← e1])
        have ht := hx t (by simp)
        have hn := hx n (by simp)
        subst e2
        have hl : (r.take n).length = n := by rw [List.length_take]; omega
        refine ⟨?_, ?_⟩
        · simp only [isT, Bool.and_eq_true]
          exact ⟨(okTf_iff _ _ _).2 ⟨by omega, by omega, by rw [hl]; omega⟩, i1⟩
        · simp only [putT]
          rw [i2, hl, List.take_append_drop]
          simp
theorem putT_got {b : List Nat} {l : List Tf} (hb : ∀ x ∈ b, x < 256) (h : gotT b = (0, l)) : isT 0 l = true ∧ putT l = b := by simpa using putT_get _ 0 b l (Nat.le_refl _) hb h
theorem getT_bad {k a : Nat} {b : List Nat} {e : Nat} {l : List Tf} (h : getT k a b = (e, l)) (h0 : e ≠ 0) : l = [] := by
  have := preT_nil (k := k) (a := a) (b := b)
  rw [h, preT, if_neg h0] at this
  exact ((Prod.mk.inj this).2).symm
theorem gotT_bad {b : List Nat} {e : Nat} {l : List Tf} (h : gotT b = (e, l)) (h0 : e ≠ 0) : l = [] := getT_bad h h0

/-- How few bytes a number has. -/
def sizeK : Nat → Nat → Nat
  | 0, _ => 0
  | k + 1, n => if n = 0 then 0 else sizeK k (n / 256) + 1
def sizeN (n : Nat) : Nat := sizeK 8 n
theorem sizeK_spec : ∀ (k n : Nat), n < 256 ^ k → sizeK k n ≤ k ∧ n < 256 ^ sizeK k n ∧ (n ≠ 0 → 256 ^ (sizeK k n - 1) ≤ n ∧ 1 ≤ sizeK k n)
  | 0, n, h => by
    have : n = 0 := by simpa using h
    subst this
    exact ⟨Nat.le_refl _, by simp [sizeK], fun h => absurd rfl h⟩
  | k + 1, n, h => by
    by_cases e : n = 0
    · subst e
      simp [sizeK]
    · have hd : n / 256 < 256 ^ k := by
        rw [Nat.div_lt_iff_lt_mul (by omega), ← Nat.pow_succ]; exact h
      obtain ⟨h1, h2, h3⟩ := sizeK_spec k (n / 256) hd
      have es : sizeK (k + 1) n = sizeK k (n / 256) + 1 := by rw [sizeK, if_neg e]
      rw [es]
      refine ⟨by omega, ?_, fun _ => ⟨?_, by omega⟩⟩
      · rw [Nat.pow_succ]
        rwa [Nat.div_lt_iff_lt_mul (by omega)] at h2
      · rw [Nat.add_sub_cancel]
        by_cases e2 : n / 256 = 0
        · have es2 : sizeK k (n / 256) = 0 := by rw [e2]; cases k <;> simp [sizeK]
          rw [es2]; omega
        · obtain ⟨g1, g2⟩ := h3 e2
          obtain ⟨j, hj⟩ : ∃ j, sizeK k (n / 256) = j + 1 := ⟨sizeK k (n / 256) - 1, by omega⟩
          rw [hj, Nat.add_sub_cancel] at g1
          rw [hj, Nat.pow_succ]
          calc 256 ^ j * 256 ≤ n / 256 * 256 := Nat.mul_le_mul_right _ g1
            _ ≤ n := Nat.div_mul_le_self _ _
theorem sizeN_spec {n : Nat} (h : n < 9223372036854775808) : sizeN n ≤ 8 ∧ n < 256 ^ sizeN n ∧ (n ≠ 0 → 256 ^ (sizeN n - 1) ≤ n ∧ 1 ≤ sizeN n) := sizeK_spec 8 n (by omega)
/-- So many bytes: what is left of the number is nothing. -/
theorem sizeN_eq {n k : Nat} (h : n < 9223372036854775808) (h1 : n < 256 ^ k) (h2 : ∀ j, j < k → 256 ^ j ≤ n) : sizeN n = k := by
  obtain ⟨_, s2, s3⟩ := sizeN_spec h
  rcases Nat.lt_trichotomy (sizeN n) k with h4 | h4 | h4
  · have := h2 _ h4
    omega
  · exact h4
  · have hn : n ≠ 0 := by
      intro e
      subst e
      simp [sizeN, sizeK] at h4
    have h5 := (s3 hn).1
    have h6 : 256 ^ k ≤ 256 ^ (sizeN n - 1) := Nat.pow_le_pow_right (by omega) (by omega)
    omega
/-- A number as few bytes. -/
def numB (n : Nat) : List Nat := putB n (sizeN n)
def outN (n : Int) : Nat × List Nat := if n < 0 then (1, []) else (0, numB n.toNat)
theorem numB_len (n : Nat) : (numB n).length = sizeN n := length_putB _ _
theorem numB_lt (n : Nat) : ∀ x ∈ numB n, x < 256 := putB_lt _ _
/-- The number that bytes are, or the error. -/
def valT (b : List Nat) : Nat × Nat := if b.length = 0 ∨ 7 < b.length ∨ b.getD 0 0 = 0 then (0, 14) else (valB b, 0)
theorem valT_ok {b : List Nat} (h1 : 1 ≤ b.length) (h2 : b.length ≤ 7) (h3 : b.getD 0 0 ≠ 0) : valT b = (valB b, 0) := by rw [valT, if_neg]; omega
theorem valT_bad {b : List Nat} (h : b.length = 0 ∨ 7 < b.length ∨ b.getD 0 0 = 0) : valT b = (0, 14) := by rw [valT, if_pos h]
theorem putB_head (n k : Nat) (h : 1 ≤ k) : (putB n k).getD 0 0 = n / 256 ^ (k - 1) % 256 := by
  obtain ⟨j, rfl⟩ : ∃ j, k = j + 1 := ⟨k - 1, by omega⟩
  rfl
/-- A number but 0 is told again. -/
theorem valT_num {n : Nat} (h : n < 9223372036854775808) (h0 : n ≠ 0) (h7 : sizeN n ≤ 7) : valT (numB n) = (n, 0) := by
  obtain ⟨_, s2, s3⟩ := sizeN_spec h
  obtain ⟨s4, s5⟩ := s3 h0
  have hh : (numB n).getD 0 0 ≠ 0 := by
    rw [numB, putB_head n _ s5]
    have hd : 1 ≤ n / 256 ^ (sizeN n - 1) := (Nat.le_div_iff_mul_le (Nat.pow_pos (by omega))).2 (by omega)
    have hl : n / 256 ^ (sizeN n - 1) < 256 := by
      rw [Nat.div_lt_iff_lt_mul (Nat.pow_pos (by omega)), Nat.mul_comm, ← Nat.pow_succ, show (sizeN n - 1).succ = sizeN n by omega]
      exact s2
    omega
  rw [valT_ok (by rw [numB_len]; exact s5) (by rw [numB_len]; exact h7) hh, numB, valB_putB, Nat.mod_eq_of_lt s2]
theorem putB_valB : ∀ (b : List Nat), (∀ x ∈ b, x < 256) → ∀ m, putB (m * 256 ^ b.length + valB b) b.length = b
  | [], _, _ => rfl
  | x :: b, h, m => by
    have hx := h x (by simp)
    have hb := valB_lt b (fun y hy => h y (by simp [hy]))
    have hi := putB_valB b (fun y hy => h y (by simp [hy])) (m * 256 + x)
    have hp : 0 < 256 ^ b.length := Nat.pow_pos (by omega)
    have e : m * 256 ^ (b.length + 1) + (x * 256 ^ b.length + valB b) = (m * 256 + x) * 256 ^ b.length + valB b := by
      rw [Nat.pow_succ, Nat.add_mul, Nat.mul_assoc, Nat.mul_comm 256, Nat.add_assoc]
    rw [List.length_cons, putB, valB_cons, e, hi]
    congr 1
    rw [Nat.add_comm, Nat.add_mul_div_right _ _ hp, Nat.div_eq_of_lt hb, Nat.zero_add]
    omega
/-- Bytes that are a number are its bytes. -/
theorem num_valT {b : List Nat} {v : Nat} (hb : ∀ x ∈ b, x < 256) (h : valT b = (v, 0)) : 0 < v ∧ v < 72057594037927936 ∧ numB v = b := by
  by_cases hc : b.length = 0 ∨ 7 < b.length ∨ b.getD 0 0 = 0
  · rw [valT_bad hc] at h; cases h
  · rw [valT, if_neg hc] at h
    obtain ⟨rfl, _⟩ := Prod.mk.inj h
    have h7 : b.length ≤ 7 := by omega
    have hlt := valB_lt b hb
    have h2 : 256 ^ b.length ≤ 256 ^ 7 := Nat.pow_le_pow_right (by omega) h7
    cases b with
    | nil => simp at hc
    | cons x b =>
      have hx : 1 ≤ x := by simp at hc; omega
      have hge : 256 ^ b.length ≤ valB (x :: b) := by
        rw [valB_cons]
        have := Nat.mul_le_mul_right (256 ^ b.length) hx
        omega
      have hpos : 0 < 256 ^ b.length := Nat.pow_pos (by omega)
      have hs : sizeN (valB (x :: b)) = (x :: b).length := by
        refine sizeN_eq (by omega) hlt fun j hj => ?_
        rw [List.length_cons] at hj
        exact Nat.le_trans (Nat.pow_le_pow_right (by omega) (by omega)) hge
      refine ⟨by omega, by omega, ?_⟩
      have := putB_valB (x :: b) hb 0
      rw [Nat.zero_mul, Nat.zero_add] at this
      rw [numB, hs, this]
end Go.Proofs.Ytaldpioahnbkgaa
