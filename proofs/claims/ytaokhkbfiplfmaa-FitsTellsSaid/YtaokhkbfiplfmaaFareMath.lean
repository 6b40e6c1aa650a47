/-
  Plain facts for layer 8 (fare): prices. No memory and no program here.
-/
import Derived.Test.YtaokhkbfiplfmaaLineMath
namespace Go.Proofs.Ytaokhkbfiplfmaa

theorem le_low {m a b : Int} (hm : m ≤ 6) : ∀ k : Nat, (∀ j : Nat, j < k → between a b (j : Int) = true → m ≤ zn (j : Int)) → m ≤ lowF a b k
  | 0, _ => hm
  | k + 1, h => by
    have ih := le_low (a := a) (b := b) hm k (fun j hj hb => h j (by omega) hb)
    rw [lowF]
    split
    · rename_i hb
      have := h k (by omega) hb
      unfold mn; split <;> omega
    · exact ih
theorem high_le {m a b : Int} (hm : 1 ≤ m) : ∀ k : Nat, (∀ j : Nat, j < k → between a b (j : Int) = true → zn (j : Int) ≤ m) → highF a b k ≤ m
  | 0, _ => hm
  | k + 1, h => by
    have ih := high_le (a := a) (b := b) hm k (fun j hj hb => h j (by omega) hb)
    rw [highF]
    split
    · rename_i hb
      have := h k (by omega) hb
      unfold mx; split <;> omega
    · exact ih
theorem zn_nat {j : Nat} (h : j < 40) : 1 ≤ zn (j : Int) ∧ zn (j : Int) ≤ 6 := zn_in ((isN_iff _).2 (by omega))
theorem way_bounds {a b : Int} (h : is2 a b = true) : 1 ≤ lowF a b 40 ∧ lowF a b 40 ≤ highF a b 40 ∧ highF a b 40 ≤ 6 := by
  obtain ⟨h1, _⟩ := (is2_iff a b).1 h
  have ha := (isN_iff a).1 h1
  have e : ((a.toNat : Nat) : Int) = a := by omega
  have hb : between a b (a.toNat : Int) = true := by rw [e, between_iff]; omega
  have l := low_le a b 40 a.toNat (by omega) hb
  have u := le_high a b 40 a.toNat (by omega) hb
  refine ⟨le_low (by omega) 40 (fun j hj _ => (zn_nat hj).1), by omega, high_le (by omega) 40 (fun j hj _ => (zn_nat hj).2)⟩
theorem low_top (a b : Int) : ∀ k, lowF a b k ≤ 6
  | 0 => Int.le_refl _
  | k + 1 => by
    rw [lowF]; split
    · exact Int.le_trans (mn_left _ _) (low_top a b k)
    · exact low_top a b k
theorem top_high (a b : Int) : ∀ k, 1 ≤ highF a b k
  | 0 => Int.le_refl _
  | k + 1 => by
    rw [highF]; split
    · exact Int.le_trans (top_high a b k) (mx_left _ _)
    · exact top_high a b k
/-- A way within another one has no other zones. -/
theorem way_within {f t a b : Int} (hx : between f t a = true) (hy : between f t b = true) : lowF f t 40 ≤ lowF a b 40 ∧ highF a b 40 ≤ highF f t 40 := by
  rw [between_iff] at hx hy
  have hw : ∀ j : Nat, between a b (j : Int) = true → between f t (j : Int) = true := fun j h => by
    rw [between_iff] at h ⊢; omega
  constructor
  · exact le_low (low_top f t 40) 40 (fun j hj h => low_le f t 40 j hj (hw j h))
  · exact high_le (top_high f t 40) 40 (fun j hj h => le_high f t 40 j hj (hw j h))
def okB (z : Int) : Bool := decide (1 ≤ z) && decide (z ≤ 6)
theorem okB_iff (z : Int) : okB z = true ↔ 1 ≤ z ∧ z ≤ 6 := by simp [okB]
def basN (z : Int) : Int := 180 + 95 * (z - 1)
def baseV (z : Int) : Int := if okB z = true then basN z else 0
def baseE (z : Int) : Int := if okB z = true then 0 else 1
/-- What a railcard takes off. -/
def offN (p c : Int) : Int := if c = 1 then p / 3 else if c = 2 then p / 2 else if c = 3 then p / 10 else 0
def okC (p c : Int) : Bool := decide (0 ≤ p) && (decide (p ≤ 1000000000) && (decide (0 ≤ c) && decide (c ≤ 3)))
theorem okC_iff (p c : Int) : okC p c = true ↔ 0 ≤ p ∧ p ≤ 1000000000 ∧ 0 ≤ c ∧ c ≤ 3 := by simp [okC]
def cutN (p c : Int) : Int := mx (p - offN p c) (mn p 100)
def cutV (p c : Int) : Int := if okC p c = true then cutN p c else 0
def cutE (p c : Int) : Int := if okC p c = true then 0 else 1
theorem cut_mono {p q c : Int} (hp : 0 ≤ p) (h : p ≤ q) : cutN p c ≤ cutN q c := by
  unfold cutN mx mn offN
  repeat' split
  all_goals omega
theorem cut_none (p : Int) (hp : 0 ≤ p) (c : Int) : cutN p c ≤ cutN p 0 := by
  unfold cutN mx mn offN
  repeat' split
  all_goals omega
theorem cut_least (p c : Int) (hp : 100 ≤ p) : 100 ≤ cutN p c := by
  unfold cutN mx mn
  repeat' split
  all_goals omega
def okS (f t cl c : Int) : Bool := is2 f t && (decide (1 ≤ cl) && (decide (cl ≤ 2) && (decide (0 ≤ c) && decide (c ≤ 3))))
theorem okS_iff (f t cl c : Int) : okS f t cl c = true ↔ is2 f t = true ∧ 1 ≤ cl ∧ cl ≤ 2 ∧ 0 ≤ c ∧ c ≤ 3 := by simp [okS]
/-- The number of zones, and the price of a way ahead of the railcard. -/
def nZ (f t : Int) : Int := highF f t 40 - lowF f t 40 + 1
def fullN (f t cl : Int) : Int := if cl = 1 then basN (nZ f t) + basN (nZ f t) / 2 else basN (nZ f t)
def singleV (f t cl c : Int) : Int := if okS f t cl c = true then cutN (fullN f t cl) c else 0
def singleE (f t cl c : Int) : Int := if okS f t cl c = true then 0 else 1
theorem nZ_in {f t : Int} (h : is2 f t = true) : 1 ≤ nZ f t ∧ nZ f t ≤ 6 := by have := way_bounds h; unfold nZ; omega
theorem full_in {f t : Int} (h : is2 f t = true) (cl : Int) : 180 ≤ fullN f t cl ∧ fullN f t cl ≤ 1000 := by
  have := nZ_in h
  unfold fullN basN
  split <;> omega
theorem full_class {f t : Int} (h : is2 f t = true) (cl : Int) : fullN f t cl ≤ fullN f t 1 := by
  have := nZ_in h
  unfold fullN basN
  rw [if_pos rfl]
  split <;> omega
theorem single_swap (f t cl c : Int) : singleV t f cl c = singleV f t cl c ∧ singleE t f cl c = singleE f t cl c := by
  have e1 : okS t f cl c = okS f t cl c := by unfold okS; rw [is2_swap t f]
  have e2 : fullN t f cl = fullN f t cl := by unfold fullN nZ; rw [low_swap, high_swap]
  unfold singleV singleE
  rw [e1, e2]
  exact ⟨rfl, rfl⟩
theorem order_facts8 {f t cl c : Int} (h : okS f t cl c = true) : singleE f t 1 c = 0 ∧ singleE f t cl 0 = 0 ∧ singleV f t cl c ≤ singleV f t 1 c ∧ singleV f t cl c ≤ singleV f t cl 0 ∧ 90 ≤ singleV f t cl c := by
  have hs := (okS_iff _ _ _ _).1 h
  have h1 : okS f t 1 c = true := (okS_iff _ _ _ _).2 ⟨hs.1, by omega, by omega, by omega, by omega⟩
  have h0 : okS f t cl 0 = true := (okS_iff _ _ _ _).2 ⟨hs.1, by omega, by omega, by omega, by omega⟩
  have hf := full_in hs.1 cl
  unfold singleE singleV
  rw [if_pos h1, if_pos h0, if_pos h, if_pos h1, if_pos h0]
  refine ⟨rfl, rfl, cut_mono (by omega) (full_class hs.1 cl), cut_none _ (by omega) c, ?_⟩
  have := cut_least (fullN f t cl) c (by omega)
  omega
theorem far_facts {f t a b cl c : Int} (h : okS f t cl c = true) (h2 : okS a b cl c = true) (hx : between f t a = true) (hy : between f t b = true) : singleV a b cl c ≤ singleV f t cl c := by
  have hs := (okS_iff _ _ _ _).1 h
  have hs2 := (okS_iff _ _ _ _).1 h2
  have hw := way_within hx hy
  have hn : nZ a b ≤ nZ f t := by unfold nZ; omega
  have n1 := nZ_in hs2.1
  have hf := full_in hs2.1 cl
  unfold singleV
  rw [if_pos h, if_pos h2]
  refine cut_mono (by omega) ?_
  unfold fullN basN
  split <;> omega
def okK (p l a : Int) : Bool := decide (0 ≤ p) && (decide (p ≤ 1000000000) && (decide (1 ≤ a) && (decide (a ≤ 20) && (decide (0 ≤ l) && decide (l ≤ a)))))
theorem okK_iff (p l a : Int) : okK p l a = true ↔ 0 ≤ p ∧ p ≤ 1000000000 ∧ 1 ≤ a ∧ a ≤ 20 ∧ 0 ≤ l ∧ l ≤ a := by simp [okK]
def backN (p l a : Int) : Int := mx 0 (p * l / a - 150)
def backV (p l a : Int) : Int := if okK p l a = true then backN p l a else 0
def backE (p l a : Int) : Int := if okK p l a = true then 0 else 1
theorem mx0_mono {x y : Int} (h : x ≤ y) : mx 0 x ≤ mx 0 y := by unfold mx; split <;> split <;> omega
theorem back_mono {p l m a : Int} (hp : 0 ≤ p) (ha : 1 ≤ a) (h : l ≤ m) : backN p l a ≤ backN p m a := by
  unfold backN
  refine mx0_mono ?_
  have := Int.ediv_le_ediv (show (0 : Int) < a by omega) (Int.mul_le_mul_of_nonneg_left h hp)
  omega
theorem less_facts {p l a : Int} (h : okK p l a = true) : backE p a a = 0 ∧ 0 ≤ backV p l a ∧ backV p l a ≤ backV p a a ∧ backV p a a ≤ p ∧ (l = 0 → backV p l a = 0) ∧ (l ≠ 0 → backE p (l - 1) a = 0 ∧ backV p (l - 1) a ≤ backV p l a) := by
  have hk := (okK_iff _ _ _).1 h
  have ha : okK p a a = true := (okK_iff _ _ _).2 (by omega)
  have e0 : backV p l a = backN p l a := by rw [backV, if_pos h]
  have e1 : backV p a a = backN p a a := by rw [backV, if_pos ha]
  rw [e0, e1]
  refine ⟨by rw [backE, if_pos ha], ?_, back_mono hk.1 hk.2.2.1 hk.2.2.2.2.2, ?_, ?_, ?_⟩
  · unfold backN mx; split <;> omega
  · unfold backN
    rw [Int.mul_ediv_cancel _ (by omega)]
    unfold mx; split <;> omega
  · intro hl
    subst hl
    unfold backN
    rw [Int.mul_zero, Int.zero_ediv]
    rfl
  · intro hl
    have h1 : okK p (l - 1) a = true := (okK_iff _ _ _).2 (by omega)
    rw [backE, backV, if_pos h1, if_pos h1]
    exact ⟨rfl, back_mono hk.1 hk.2.2.1 (by omega)⟩
end Go.Proofs.Ytaokhkbfiplfmaa
