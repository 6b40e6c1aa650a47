/-
  Plain facts for layer 6 (day): months, days and dates. No memory and no program here.
-/
import Derived.KernelRfl
namespace Go.Proofs.Ytiekfcpinljcjaa

/-- Whether a year is a leap year, whatever its number. -/
def leapN (y : Int) : Bool := (y.tmod 4 == 0) && ((y.tmod 100 != 0) || (y.tmod 400 == 0))
/-- How many days a month of a year has. -/
def lenM (y m : Int) : Nat := if m = 2 then (if leapN y = true then 29 else 28) else if m = 4 ∨ m = 6 ∨ m = 9 ∨ m = 11 then 30 else 31
theorem lenM_ge (y m : Int) : 28 ≤ lenM y m := by unfold lenM; repeat' split <;> try omega
theorem lenM_le (y m : Int) : lenM y m ≤ 31 := by unfold lenM; repeat' split <;> try omega
theorem lenM_dec (y : Int) : lenM y 12 = 31 := rfl
/-- The year and the month of the tth month since January of 2000. -/
def yr (t : Nat) : Int := 2000 + ((t / 12 : Nat) : Int)
def mo (t : Nat) : Int := ((t % 12 : Nat) : Int) + 1
def len (t : Nat) : Nat := lenM (yr t) (mo t)
theorem len_ge (t : Nat) : 28 ≤ len t := lenM_ge _ _
theorem len_le (t : Nat) : len t ≤ 31 := lenM_le _ _
/-- How many days are ahead of the tth month. -/
def dsum : Nat → Nat
  | 0 => 0
  | t + 1 => dsum t + len t
theorem dsum_succ (t : Nat) : dsum (t + 1) = dsum t + len t := rfl
theorem dsum_step {t : Nat} : ∀ {u : Nat}, t < u → dsum t + len t ≤ dsum u
  | u + 1, h => by
    rcases Nat.lt_or_ge t u with h1 | h1
    · have := dsum_step h1
      rw [dsum_succ]; omega
    · have e : t = u := by omega
      subst e
      rw [dsum_succ]; omega
theorem dsum_mono {t u : Nat} (h : t ≤ u) : dsum t ≤ dsum u := by
  rcases Nat.lt_or_ge t u with h1 | h1
  · have := dsum_step h1; omega
  · have e : t = u := by omega
    subst e; omega
theorem dsum_ge : ∀ t : Nat, 28 * t ≤ dsum t
  | 0 => Nat.zero_le _
  | t + 1 => by have := dsum_ge t; have := len_ge t; rw [dsum_succ]; omega
theorem dsum_le : ∀ t : Nat, dsum t ≤ 31 * t
  | 0 => Nat.le_refl _
  | t + 1 => by have := dsum_le t; have := len_le t; rw [dsum_succ]; omega
theorem day_one {t t' r r' : Nat} (h : r < len t) (h' : r' < len t') (e : dsum t + r = dsum t' + r') : t = t' ∧ r = r' := by
  rcases Nat.lt_trichotomy t t' with h1 | h1 | h1
  · have := dsum_step h1; omega
  · subst h1; omega
  · have := dsum_step h1; omega
/-- The month and the day in it, of the nth day. -/
def mday : Nat → Nat × Nat
  | 0 => (0, 0)
  | n + 1 => if (mday n).2 + 1 < len (mday n).1 then ((mday n).1, (mday n).2 + 1) else ((mday n).1 + 1, 0)
theorem mday_spec : ∀ n : Nat, dsum (mday n).1 + (mday n).2 = n ∧ (mday n).2 < len (mday n).1
  | 0 => ⟨rfl, by have := len_ge 0; show 0 < len 0; omega⟩
  | n + 1 => by
    have ih := mday_spec n
    by_cases h : (mday n).2 + 1 < len (mday n).1
    · rw [mday, if_pos h]; exact ⟨by show dsum (mday n).1 + ((mday n).2 + 1) = n + 1; omega, h⟩
    · rw [mday, if_neg h]
      have := len_ge ((mday n).1 + 1)
      exact ⟨by show dsum ((mday n).1 + 1) + 0 = n + 1; rw [dsum_succ]; omega, by show 0 < len ((mday n).1 + 1); omega⟩
theorem mday_eq {n t r : Nat} (h : r < len t) (e : dsum t + r = n) : mday n = (t, r) := by
  have hs := mday_spec n
  have := day_one hs.2 h (hs.1.trans e.symm)
  exact Prod.ext this.1 this.2

/-- A date. -/
structure D where
  y : Int
  m : Int
  d : Int
theorem D.ext' {a b : D} (h1 : a.y = b.y) (h2 : a.m = b.m) (h3 : a.d = b.d) : a = b := by cases a; cases b; simp only at h1 h2 h3; rw [h1, h2, h3]
def D0 : D := ⟨0, 0, 0⟩
def mkD (t r : Nat) : D := ⟨yr t, mo t, (r : Int) + 1⟩
def okN (n : Int) : Bool := decide (0 ≤ n) && decide (n ≤ 99999)
theorem okN_iff (n : Int) : okN n = true ↔ 0 ≤ n ∧ n ≤ 99999 := by simp [okN]
/-- What Date answers. -/
def dateD (n : Int) : D := if okN n = true then mkD (mday n.toNat).1 (mday n.toNat).2 else D0
def dateE (n : Int) : Int := if okN n = true then 0 else 1
def ixD (d : D) : Nat := ((d.y - 2000) * 12 + (d.m - 1)).toNat
def formD (d : D) : Bool := decide (2000 ≤ d.y) && (decide (d.y ≤ 2300) && (decide (1 ≤ d.m) && (decide (d.m ≤ 12) && (decide (1 ≤ d.d) && decide (d.d ≤ (lenM d.y d.m : Nat))))))
theorem formD_iff (d : D) : formD d = true ↔ 2000 ≤ d.y ∧ d.y ≤ 2300 ∧ 1 ≤ d.m ∧ d.m ≤ 12 ∧ 1 ≤ d.d ∧ d.d ≤ (lenM d.y d.m : Nat) := by simp [formD]
/-- The days ahead of a date. -/
def cnt (d : D) : Nat := dsum (ixD d) + (d.d - 1).toNat
def okD (d : D) : Bool := formD d && decide (cnt d ≤ 99999)
/-- What Of answers. -/
def ofN (d : D) : Int := if okD d = true then (cnt d : Int) else 0
def ofE (d : D) : Int := if okD d = true then 0 else 1
theorem form_ix {d : D} (h : formD d = true) : yr (ixD d) = d.y ∧ mo (ixD d) = d.m ∧ ixD d ≤ 3611 ∧ (d.d - 1).toNat < len (ixD d) ∧ mkD (ixD d) (d.d - 1).toNat = d := by
  have hf := (formD_iff d).1 h
  have e1 : yr (ixD d) = d.y := by unfold yr ixD; omega
  have e2 : mo (ixD d) = d.m := by unfold mo ixD; omega
  refine ⟨e1, e2, by unfold ixD; omega, ?_, D.ext' e1 e2 ?_⟩
  · unfold len; rw [e1, e2]; omega
  · show (((d.d - 1).toNat : Nat) : Int) + 1 = d.d; omega
theorem mk_form {t r : Nat} (ht : t ≤ 3611) (hr : r < len t) : formD (mkD t r) = true ∧ ixD (mkD t r) = t ∧ ((mkD t r).d - 1).toNat = r := by
  have h1 : ((mkD t r).d - 1).toNat = r := by show (((r : Int) + 1) - 1).toNat = r; omega
  have h2 : ixD (mkD t r) = t := by unfold ixD mkD yr mo; show (((2000 + ((t / 12 : Nat) : Int)) - 2000) * 12 + ((((t % 12 : Nat) : Int) + 1) - 1)).toNat = t; omega
  refine ⟨(formD_iff _).2 ⟨?_, ?_, ?_, ?_, ?_, ?_⟩, h2, h1⟩
  · show 2000 ≤ yr t; unfold yr; omega
  · show yr t ≤ 2300; unfold yr; omega
  · show 1 ≤ mo t; unfold mo; omega
  · show mo t ≤ 12; unfold mo; omega
  · show 1 ≤ (r : Int) + 1; omega
  · show (r : Int) + 1 ≤ ((lenM (yr t) (mo t) : Nat) : Int); have : r < lenM (yr t) (mo t) := hr; omega
theorem ix_small {t : Nat} (h : dsum t ≤ 99999) : t ≤ 3611 := by have := dsum_ge t; omega
/-- Dates and days are one another's. -/
theorem of_date {n : Int} (h : okN n = true) : ofN (dateD n) = n ∧ ofE (dateD n) = 0 := by
  have hn := (okN_iff n).1 h
  have hs := mday_spec n.toNat
  have ht : (mday n.toNat).1 ≤ 3611 := ix_small (by omega)
  obtain ⟨h1, h2, h3⟩ := mk_form ht hs.2
  have hd : dateD n = mkD (mday n.toNat).1 (mday n.toNat).2 := by rw [dateD, if_pos h]
  have hc : cnt (dateD n) = n.toNat := by rw [cnt, hd, h2, h3]; exact hs.1
  have hok : okD (dateD n) = true := by
    rw [okD, hc, hd, h1, Bool.true_and, decide_eq_true_iff]; omega
  rw [ofN, ofE, if_pos hok, if_pos hok, hc]
  exact ⟨by omega, rfl⟩
theorem date_of {d : D} (h : okD d = true) : dateD (ofN d) = d ∧ dateE (ofN d) = 0 := by
  have h' := h
  rw [okD, Bool.and_eq_true, decide_eq_true_iff] at h'
  obtain ⟨hf, hc⟩ := h'
  obtain ⟨e1, e2, e3, e4, e5⟩ := form_ix hf
  have hn : ofN d = (cnt d : Int) := by rw [ofN, if_pos h]
  have hok : okN (ofN d) = true := (okN_iff _).2 (by rw [hn]; omega)
  rw [dateD, dateE, if_pos hok, if_pos hok, hn, Int.toNat_natCast, mday_eq (n := cnt d) e4 rfl]
  exact ⟨e5, rfl⟩
/-- The next day is the next date. -/
theorem date_next {n : Int} (h : okN n = true) (h2 : n ≠ 99999) : dateE (n + 1) = 0 ∧
    (((dateD (n + 1)).y = (dateD n).y ∧ (dateD (n + 1)).m = (dateD n).m ∧ (dateD (n + 1)).d = (dateD n).d + 1) ∨
     ((dateD (n + 1)).y = (dateD n).y ∧ (dateD (n + 1)).m = (dateD n).m + 1 ∧ (dateD (n + 1)).d = 1 ∧ 28 ≤ (dateD n).d) ∨
     ((dateD (n + 1)).y = (dateD n).y + 1 ∧ (dateD (n + 1)).m = 1 ∧ (dateD (n + 1)).d = 1 ∧ (dateD n).m = 12 ∧ (dateD n).d = 31)) := by
  have hn := (okN_iff n).1 h
  have h' : okN (n + 1) = true := (okN_iff _).2 (by omega)
  have hs := mday_spec n.toNat
  have e : (n + 1).toNat = n.toNat + 1 := by omega
  refine ⟨by rw [dateE, if_pos h'], ?_⟩
  rw [dateD, dateD, if_pos h, if_pos h', e, mday]
  generalize (mday n.toNat).1 = t at *
  generalize (mday n.toNat).2 = r at *
  have hl := len_ge t
  by_cases hr : r + 1 < len t
  · rw [if_pos hr]
    exact .inl ⟨rfl, rfl, by show ((r + 1 : Nat) : Int) + 1 = ((r : Int) + 1) + 1; omega⟩
  · rw [if_neg hr]
    refine .inr ?_
    by_cases hm : t % 12 = 11
    · have hlen : len t = 31 := by unfold len mo; rw [hm]; rfl
      refine .inr ⟨?_, ?_, rfl, ?_, ?_⟩
      · show yr (t + 1) = yr t + 1; unfold yr; omega
      · show mo (t + 1) = 1; unfold mo; omega
      · show mo t = 12; unfold mo; omega
      · show (r : Int) + 1 = 31; omega
    · refine .inl ⟨?_, ?_, rfl, ?_⟩
      · show yr (t + 1) = yr t; unfold yr; omega
      · show mo (t + 1) = mo t + 1; unfold mo; omega
      · show 28 ≤ (r : Int) + 1; omega
/-- Whether a date is ahead of another. -/
def lessD (a b : D) : Bool := decide (a.y < b.y) || (decide (a.y = b.y) && (decide (a.m < b.m) || (decide (a.m = b.m) && decide (a.d < b.d))))
theorem less_iff {a b : D} (ha : okD a = true) (hb : okD b = true) : (lessD a b = true ↔ ofN a < ofN b) ∧ (a = b ↔ ofN a = ofN b) := by
  have ha' := ha
  have hb' := hb
  rw [okD, Bool.and_eq_true, decide_eq_true_iff] at ha' hb'
  obtain ⟨a1, a2, a3, a4, a5⟩ := form_ix ha'.1
  obtain ⟨b1, b2, b3, b4, b5⟩ := form_ix hb'.1
  have fa := (formD_iff a).1 ha'.1
  have fb := (formD_iff b).1 hb'.1
  have na : ofN a = (cnt a : Int) := by rw [ofN, if_pos ha]
  have nb : ofN b = (cnt b : Int) := by rw [ofN, if_pos hb]
  have hcase : (ixD a < ixD b ↔ (a.y < b.y ∨ (a.y = b.y ∧ a.m < b.m))) ∧ (ixD a = ixD b ↔ (a.y = b.y ∧ a.m = b.m)) := by
    unfold ixD; constructor <;> constructor <;> intro h <;> omega
  have hlt : lessD a b = true ↔ (ixD a < ixD b ∨ (ixD a = ixD b ∧ a.d < b.d)) := by
    rw [hcase.1, hcase.2]
    simp only [lessD, Bool.or_eq_true, Bool.and_eq_true, decide_eq_true_iff]
    omega
  constructor
  · rw [hlt, na, nb]
    constructor
    · rintro (h | ⟨h, h2⟩)
      · have := dsum_step h; unfold cnt; omega
      · unfold cnt; rw [h]; omega
    · intro h
      rcases Nat.lt_trichotomy (ixD a) (ixD b) with h1 | h1 | h1
      · exact .inl h1
      · refine .inr ⟨h1, ?_⟩
        unfold cnt at h; rw [h1] at h; omega
      · have := dsum_step h1
        unfold cnt at h; omega
  · constructor
    · intro e; rw [e]
    · intro e
      have := (date_of ha).1
      rw [e, (date_of hb).1] at this
      exact this.symm
theorem dsum_far : dsum 3285 = 99985 := by kernel_rfl
theorem of_a : ofN ⟨2000, 3, 1⟩ = 60 ∧ ofE ⟨2000, 3, 1⟩ = 0 := ⟨by kernel_rfl, by kernel_rfl⟩
theorem of_c : ofN ⟨2001, 2, 29⟩ = 0 ∧ ofE ⟨2001, 2, 29⟩ = 1 := ⟨by kernel_rfl, by kernel_rfl⟩
theorem date_b : dateD 59 = ⟨2000, 2, 29⟩ ∧ dateE 59 = 0 := ⟨by
  have h : mday 59 = (1, 28) := mday_eq (show 28 < len 1 by decide +kernel) (by kernel_rfl)
  show (if okN 59 = true then mkD (mday 59).1 (mday 59).2 else D0) = _
  rw [h]
  exact D.ext' (by kernel_rfl) (by kernel_rfl) (by kernel_rfl), by kernel_rfl⟩
theorem date_d : dateD 100000 = D0 ∧ dateE 100000 = 1 := ⟨by rw [dateD, if_neg (by decide)], by rw [dateE, if_neg (by decide)]⟩
theorem date_j : dateD 99999 = ⟨2273, 10, 15⟩ ∧ dateE 99999 = 0 := ⟨by
  have h : mday 99999 = (3285, 14) := mday_eq (show 14 < len 3285 by decide +kernel) (by rw [dsum_far])
  show (if okN 99999 = true then mkD (mday 99999).1 (mday 99999).2 else D0) = _
  rw [h]
  exact D.ext' (by kernel_rfl) (by kernel_rfl) (by kernel_rfl), by kernel_rfl⟩
end Go.Proofs.Ytiekfcpinljcjaa
