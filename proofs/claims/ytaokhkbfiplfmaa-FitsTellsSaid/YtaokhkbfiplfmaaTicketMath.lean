/-
  Plain facts for layer 9 (ticket): tickets, what they cover, what they cost. No memory and no program here.
-/
import Derived.Test.YtaokhkbfiplfmaaFareMath
namespace Go.Proofs.Ytaokhkbfiplfmaa

/-- A ticket's eleven numbers. -/
structure Tk where
  ser : Int
  kind : Int
  frm : Int
  till : Int
  cls : Int
  card : Int
  seat : Int
  day : Int
  days : Int
  uses : Int
  epoch : Int
def placeB (t : Tk) : Bool := if t.kind = 3 then decide (1 ≤ t.frm) && (decide (t.frm ≤ t.till) && decide (t.till ≤ 6)) else isN t.frm && (isN t.till && (t.frm != t.till))
def usesB (t : Tk) : Bool := if t.kind = 4 then decide (2 ≤ t.uses) && decide (t.uses ≤ 20) else t.uses == t.kind.tmod 3
def numsB (t : Tk) : Bool := decide (1 ≤ t.ser) && (decide (t.ser ≤ 1099511627776) && (decide (1 ≤ t.kind) && (decide (t.kind ≤ 4) && (decide (1 ≤ t.cls) && (decide (t.cls ≤ 2) && (decide (0 ≤ t.card) && (decide (t.card ≤ 3) && (decide (0 ≤ t.seat) && decide (t.seat ≤ 999)))))))))
def daysB (t : Tk) : Bool := decide (0 ≤ t.day) && (decide (t.day ≤ 99999) && (decide (1 ≤ t.days) && (decide (t.days ≤ 999) && (decide (t.day + t.days ≤ 100000) && (decide (0 ≤ t.epoch) && decide (t.epoch ≤ 9))))))
def okT (t : Tk) : Bool := numsB t && (daysB t && (placeB t && usesB t))
theorem numsB_iff (t : Tk) : numsB t = true ↔ 1 ≤ t.ser ∧ t.ser ≤ 1099511627776 ∧ 1 ≤ t.kind ∧ t.kind ≤ 4 ∧ 1 ≤ t.cls ∧ t.cls ≤ 2 ∧ 0 ≤ t.card ∧ t.card ≤ 3 ∧ 0 ≤ t.seat ∧ t.seat ≤ 999 := by simp [numsB]
theorem daysB_iff (t : Tk) : daysB t = true ↔ 0 ≤ t.day ∧ t.day ≤ 99999 ∧ 1 ≤ t.days ∧ t.days ≤ 999 ∧ t.day + t.days ≤ 100000 ∧ 0 ≤ t.epoch ∧ t.epoch ≤ 9 := by simp [daysB]
theorem okT_iff (t : Tk) : okT t = true ↔ numsB t = true ∧ daysB t = true ∧ placeB t = true ∧ usesB t = true := by simp [okT]
def lastV (t : Tk) : Int := if okT t = true then t.day + t.days - 1 else 0
def errT (t : Tk) : Int := if okT t = true then 0 else 1
def okV (t : Tk) (s : Int) : Bool := okT t && isN s
def covN (t : Tk) (s : Int) : Bool := if t.kind = 3 then decide (t.frm ≤ zn s) && decide (zn s ≤ t.till) else between t.frm t.till s
def covV (t : Tk) (s : Int) : Bool := if okV t s = true then covN t s else false
def covE (t : Tk) (s : Int) : Int := if okV t s = true then 0 else 1
/-- A day's price of a season. -/
def dayP (t : Tk) : Int := if t.cls = 1 then basN (t.till - t.frm + 1) + basN (t.till - t.frm + 1) / 2 else basN (t.till - t.frm + 1)
def oneP (t : Tk) : Int := singleV t.frm t.till t.cls t.card
def priceN (t : Tk) : Int := if t.kind = 3 then cutN (dayP t * t.days) t.card else if t.kind = 2 then 2 * oneP t - 2 * oneP t / 10 else if t.kind = 4 then t.uses * oneP t - t.uses * oneP t / 5 else oneP t
def priceV (t : Tk) : Int := if okT t = true then priceN t else 0
theorem way_of {t : Tk} (h : okT t = true) (hk : t.kind ≠ 3) : isN t.frm = true ∧ isN t.till = true ∧ t.frm ≠ t.till := by
  have hp := ((okT_iff t).1 h).2.2.1
  rw [placeB, if_neg hk] at hp
  simpa using hp
theorem zones_of {t : Tk} (h : okT t = true) (hk : t.kind = 3) : 1 ≤ t.frm ∧ t.frm ≤ t.till ∧ t.till ≤ 6 := by
  have hp := ((okT_iff t).1 h).2.2.1
  rw [placeB, if_pos hk] at hp
  simpa using hp
theorem single_ok {t : Tk} (h : okT t = true) (hk : t.kind ≠ 3) : okS t.frm t.till t.cls t.card = true := by
  have hn := (numsB_iff t).1 ((okT_iff t).1 h).1
  have hw := way_of h hk
  exact (okS_iff _ _ _ _).2 ⟨(is2_iff _ _).2 ⟨hw.1, hw.2.1⟩, by omega, by omega, by omega, by omega⟩
theorem one_in {t : Tk} (h : okT t = true) (hk : t.kind ≠ 3) : 100 ≤ oneP t ∧ oneP t ≤ 1000 := by
  have hs := single_ok h hk
  have h2 := ((okS_iff _ _ _ _).1 hs).1
  have hf := full_in h2 t.cls
  have hn := (numsB_iff t).1 ((okT_iff t).1 h).1
  rw [oneP, singleV, if_pos hs]
  refine ⟨cut_least _ _ (by omega), ?_⟩
  have h1 := cut_none (fullN t.frm t.till t.cls) (by omega) t.card
  have h3 : cutN (fullN t.frm t.till t.cls) 0 = fullN t.frm t.till t.cls := by
    unfold cutN mx mn offN
    simp only [if_neg (show ¬ ((0 : Int) = 1) by decide), if_neg (show ¬ ((0 : Int) = 2) by decide), if_neg (show ¬ ((0 : Int) = 3) by decide)]
    split <;> split <;> omega
  omega
theorem dayP_in {t : Tk} (h : okT t = true) (hk : t.kind = 3) : 180 ≤ dayP t ∧ dayP t ≤ 1000 := by
  have hz := zones_of h hk
  unfold dayP basN
  split <;> omega
theorem total_in {t : Tk} (h : okT t = true) (hk : t.kind = 3) : 180 ≤ dayP t * t.days ∧ dayP t * t.days ≤ 1000000 := by
  have hd := dayP_in h hk
  have hn := (daysB_iff t).1 ((okT_iff t).1 h).2.1
  have m1 : 180 * 1 ≤ dayP t * t.days := Int.mul_le_mul hd.1 hn.2.2.1 (by omega) (by omega)
  have m2 : dayP t * t.days ≤ 1000 * 1000 := Int.mul_le_mul hd.2 (by omega) (by omega) (by omega)
  omega
theorem uses_of {t : Tk} (h : okT t = true) : (t.kind = 4 → 2 ≤ t.uses ∧ t.uses ≤ 20) ∧ (t.kind ≠ 4 → t.uses = t.kind.tmod 3) := by
  have hu := ((okT_iff t).1 h).2.2.2
  constructor
  · intro hk
    rw [usesB, if_pos hk] at hu
    simpa using hu
  · intro hk
    rw [usesB, if_neg hk] at hu
    simpa using hu
/-- The same ticket without a railcard. -/
def noCard (t : Tk) : Tk := { t with card := 0 }
theorem noCard_ok {t : Tk} (h : okT t = true) : okT (noCard t) = true := by
  obtain ⟨h1, h2, h3, h4⟩ := (okT_iff t).1 h
  have hn := (numsB_iff t).1 h1
  exact (okT_iff _).2 ⟨(numsB_iff _).2 ⟨hn.1, hn.2.1, hn.2.2.1, hn.2.2.2.1, hn.2.2.2.2.1, hn.2.2.2.2.2.1, Int.le_refl _, (by decide : (0 : Int) ≤ 3), hn.2.2.2.2.2.2.2.2.1, hn.2.2.2.2.2.2.2.2.2⟩, h2, h3, h4⟩
theorem costs_facts {t : Tk} (h : okT t = true) : errT (noCard t) = 0 ∧ priceV t ≤ priceV (noCard t) ∧ 1 ≤ priceV t ∧
    (t.kind ≠ 3 → singleE t.frm t.till t.cls t.card = 0 ∧ priceV t ≤ t.uses * oneP t ∧ (t.kind = 1 → priceV t = oneP t)) := by
  have h0 := noCard_ok h
  have hn := (numsB_iff t).1 ((okT_iff t).1 h).1
  have e1 : priceV t = priceN t := by rw [priceV, if_pos h]
  have e2 : priceV (noCard t) = priceN (noCard t) := by rw [priceV, if_pos h0]
  rw [e1, e2]
  refine ⟨by rw [errT, if_pos h0], ?_⟩
  by_cases hk : t.kind = 3
  · have ht := total_in h hk
    have p1 : priceN t = cutN (dayP t * t.days) t.card := by rw [priceN, if_pos hk]
    have p2 : priceN (noCard t) = cutN (dayP t * t.days) 0 := by rw [priceN, if_pos (show (noCard t).kind = 3 from hk)]; rfl
    rw [p1, p2]
    refine ⟨cut_none _ (by omega) _, ?_, fun hne => absurd hk hne⟩
    have := cut_least (dayP t * t.days) t.card (by omega)
    omega
  · have ho := one_in h hk
    have ho0 := one_in h0 (show (noCard t).kind ≠ 3 from hk)
    have hs := single_ok h hk
    have hle : oneP t ≤ oneP (noCard t) := (order_facts8 hs).2.2.2.1
    have hu := uses_of h
    refine ⟨?_, ?_, fun _ => ⟨by rw [singleE, if_pos hs], ?_, ?_⟩⟩
    · unfold priceN
      rw [if_neg hk, if_neg (show ¬ (noCard t).kind = 3 from hk)]
      show _ ≤ (if t.kind = 2 then 2 * oneP (noCard t) - 2 * oneP (noCard t) / 10 else if t.kind = 4 then t.uses * oneP (noCard t) - t.uses * oneP (noCard t) / 5 else oneP (noCard t))
      by_cases h2 : t.kind = 2
      · rw [if_pos h2, if_pos h2]; omega
      · rw [if_neg h2, if_neg h2]
        by_cases h4 : t.kind = 4
        · rw [if_pos h4, if_pos h4]
          have := Int.mul_le_mul_of_nonneg_left hle (show 0 ≤ t.uses by have := hu.1 h4; omega)
          omega
        · rw [if_neg h4, if_neg h4]; exact hle
    · unfold priceN
      rw [if_neg hk]
      by_cases h2 : t.kind = 2
      · rw [if_pos h2]; omega
      · rw [if_neg h2]
        by_cases h4 : t.kind = 4
        · rw [if_pos h4]
          have := hu.1 h4
          have m1 : 2 * 100 ≤ t.uses * oneP t := Int.mul_le_mul this.1 ho.1 (by omega) (by omega)
          omega
        · rw [if_neg h4]; omega
    · unfold priceN
      rw [if_neg hk]
      by_cases h2 : t.kind = 2
      · rw [if_pos h2]
        have e : t.uses = 2 := by rw [hu.2 (by omega), h2]; rfl
        rw [e]; omega
      · rw [if_neg h2]
        by_cases h4 : t.kind = 4
        · rw [if_pos h4]
          have := hu.1 h4
          have m1 : 0 ≤ t.uses * oneP t := Int.mul_nonneg (by omega) (by omega)
          omega
        · rw [if_neg h4]
          have h1 : t.kind = 1 := by omega
          have e : t.uses = 1 := by rw [hu.2 (by omega), h1]; rfl
          rw [e]; omega
    · intro h1
      unfold priceN
      rw [if_neg hk, if_neg (by omega), if_neg (by omega)]
/-- The same ticket by another serial, seat, first day and number of exchanges. -/
def likeT (t u : Tk) : Tk := { t with ser := u.ser, seat := u.seat, day := u.day, epoch := u.epoch }
theorem alike_facts {t u : Tk} (h : okT t = true) (h2 : okT (likeT t u) = true) : priceV (likeT t u) = priceV t := by
  rw [priceV, priceV, if_pos h, if_pos h2]; rfl
/-- How many of the first k stations are covered. -/
def covC (t : Tk) : Nat → Nat
  | 0 => 0
  | k + 1 => if covN t (k : Int) = true then covC t k + 1 else covC t k
theorem covC_le (t : Tk) : ∀ k, covC t k ≤ k
  | 0 => Nat.le_refl _
  | k + 1 => by have := covC_le t k; rw [covC]; split <;> omega
theorem covC_season {t : Tk} (hk : t.kind = 3) : ∀ k : Nat, covC t k = (stL t.frm t.till k).length
  | 0 => rfl
  | k + 1 => by
    rw [covC, stL_succ, covC_season hk k]
    have e : covN t (k : Int) = inZ t.frm t.till k := by rw [covN, if_pos hk]; rfl
    rw [e]
    split
    · simp
    · rfl
theorem covC_way {t : Tk} (hk : t.kind ≠ 3) (a b : Nat) (ha : (a : Int) = t.frm ∨ (a : Int) = t.till) (hb : ((a : Int) = t.frm ∧ (b : Int) = t.till) ∨ ((a : Int) = t.till ∧ (b : Int) = t.frm)) (hab : a ≤ b) : ∀ k : Nat, covC t k = min k (b + 1) - min k a
  | 0 => by rw [covC]; omega
  | k + 1 => by
    rw [covC, covC_way hk a b ha hb hab k]
    have e : covN t (k : Int) = true ↔ (a ≤ k ∧ k ≤ b) := by
      rw [covN, if_neg hk, between_iff]
      omega
    by_cases h : a ≤ k ∧ k ≤ b
    · rw [if_pos (e.2 h)]; omega
    · rw [if_neg (fun hh => h (e.1 hh))]; omega
theorem way_count {t : Tk} (h : okT t = true) (hk : t.kind ≠ 3) : (covC t 40 : Int) = t.till - t.frm + 1 ∨ (covC t 40 : Int) = t.frm - t.till + 1 := by
  obtain ⟨h1, h2, _⟩ := way_of h hk
  have i1 := (isN_iff _).1 h1
  have i2 := (isN_iff _).1 h2
  rcases Int.le_total t.frm t.till with hl | hl
  · have := covC_way hk t.frm.toNat t.till.toNat (.inl (by omega)) (.inl ⟨by omega, by omega⟩) (by omega) 40
    refine .inl ?_
    rw [this]; omega
  · have := covC_way hk t.till.toNat t.frm.toNat (.inr (by omega)) (.inr ⟨by omega, by omega⟩) (by omega) 40
    refine .inr ?_
    rw [this]; omega
theorem ends_covered {t : Tk} (h : okT t = true) (hk : t.kind ≠ 3) : covV t t.frm = true ∧ covE t t.frm = 0 ∧ covV t t.till = true ∧ covE t t.till = 0 := by
  obtain ⟨h1, h2, _⟩ := way_of h hk
  have o1 : okV t t.frm = true := by rw [okV, h, h1]; rfl
  have o2 : okV t t.till = true := by rw [okV, h, h2]; rfl
  have c1 : covN t t.frm = true := by rw [covN, if_neg hk, between_iff]; omega
  have c2 : covN t t.till = true := by rw [covN, if_neg hk, between_iff]; omega
  unfold covV covE
  rw [if_pos o1, if_pos o1, if_pos o2, if_pos o2]
  exact ⟨c1, rfl, c2, rfl⟩
end Go.Proofs.Ytaokhkbfiplfmaa
