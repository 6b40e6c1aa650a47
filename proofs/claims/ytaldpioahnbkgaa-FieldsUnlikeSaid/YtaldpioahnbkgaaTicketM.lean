/-
  Lines, fares and tickets, plainly; a ticket in its box.
-/
import Derived.KernelRfl
import Derived.Test.YtaldpioahnbkgaaBase
namespace Go.Proofs.Ytaldpioahnbkgaa

def isN (s : Int) : Bool := decide (0 ≤ s) && decide (s ≤ 39)
theorem isN_iff (s : Int) : isN s = true ↔ 0 ≤ s ∧ s ≤ 39 := by simp [isN]
/-- The zone of a station. -/
def zn (s : Int) : Int := if s < 20 then 1 + (20 - s) / 4 else 1 + (s - 20) / 4
theorem zn_in {s : Int} (h : isN s = true) : 1 ≤ zn s ∧ zn s ≤ 6 := by
  have := (isN_iff s).1 h
  unfold zn; split <;> omega
theorem zn_next {s : Int} (h : isN s = true) : zn s - zn (s + 1) ≤ 1 ∧ zn (s + 1) - zn s ≤ 1 := by
  have := (isN_iff s).1 h
  unfold zn; split <;> split <;> omega
def zoneV (s : Int) : Int := if isN s = true then zn s else 0
def zoneE (s : Int) : Int := if isN s = true then 0 else 1
def between (a b s : Int) : Bool := (decide (a ≤ s) && decide (s ≤ b)) || (decide (b ≤ s) && decide (s ≤ a))
theorem between_iff (a b s : Int) : between a b s = true ↔ (a ≤ s ∧ s ≤ b) ∨ (b ≤ s ∧ s ≤ a) := by simp [between]
theorem between_swap (a b s : Int) : between a b s = between b a s := by rw [Bool.eq_iff_iff, between_iff, between_iff]; exact Or.comm
def is3 (a b s : Int) : Bool := isN a && (isN b && isN s)
theorem is3_iff (a b s : Int) : is3 a b s = true ↔ isN a = true ∧ isN b = true ∧ isN s = true := by simp [is3]
theorem is3_swap (a b s : Int) : is3 a b s = is3 b a s := by unfold is3; cases isN a <;> cases isN b <;> rfl
def betV (a b s : Int) : Bool := if is3 a b s = true then between a b s else false
def betE (a b s : Int) : Int := if is3 a b s = true then 0 else 1
theorem bet_swap (a b s : Int) : betV a b s = betV b a s ∧ betE a b s = betE b a s := by
  unfold betV betE; rw [is3_swap a b s, between_swap a b s]; exact ⟨rfl, rfl⟩
/-- The lesser and the greater of two, as they are told. -/
def mn (x z : Int) : Int := if z < x then z else x
def mx (x z : Int) : Int := if x < z then z else x
theorem mn_left (x z : Int) : mn x z ≤ x := by unfold mn; split <;> omega
theorem mn_right (x z : Int) : mn x z ≤ z := by unfold mn; split <;> omega
theorem mx_left (x z : Int) : x ≤ mx x z := by unfold mx; split <;> omega
theorem mx_right (x z : Int) : z ≤ mx x z := by unfold mx; split <;> omega
/-- The least and the greatest zone of the first k stations that are on the way. -/
def lowF (a b : Int) : Nat → Int
  | 0 => 6
  | k + 1 => if between a b (k : Int) = true then mn (lowF a b k) (zn (k : Int)) else lowF a b k
def highF (a b : Int) : Nat → Int
  | 0 => 1
  | k + 1 => if between a b (k : Int) = true then mx (highF a b k) (zn (k : Int)) else highF a b k
theorem low_swap (a b : Int) : ∀ k, lowF a b k = lowF b a k
  | 0 => rfl
  | k + 1 => by rw [lowF, lowF, low_swap a b k, between_swap a b]
theorem high_swap (a b : Int) : ∀ k, highF a b k = highF b a k
  | 0 => rfl
  | k + 1 => by rw [highF, highF, high_swap a b k, between_swap a b]
theorem low_le (a b : Int) : ∀ (k j : Nat), j < k → between a b (j : Int) = true → lowF a b k ≤ zn (j : Int)
  | k + 1, j, hj, hb => by
    rw [lowF]
    rcases Nat.lt_or_ge j k with h | h
    · have := low_le a b k j h hb
      split
      · exact Int.le_trans (mn_left _ _) this
      · exact this
    · have e : j = k := by omega
      subst e
      rw [if_pos hb]; exact mn_right _ _
theorem le_high (a b : Int) : ∀ (k j : Nat), j < k → between a b (j : Int) = true → zn (j : Int) ≤ highF a b k
  | k + 1, j, hj, hb => by
    rw [highF]
    rcases Nat.lt_or_ge j k with h | h
    · have := le_high a b k j h hb
      split
      · exact Int.le_trans this (mx_left _ _)
      · exact this
    · have e : j = k := by omega
      subst e
      rw [if_pos hb]; exact mx_right _ _
def is2 (a b : Int) : Bool := isN a && isN b
theorem is2_iff (a b : Int) : is2 a b = true ↔ isN a = true ∧ isN b = true := by simp [is2]
theorem is2_swap (a b : Int) : is2 a b = is2 b a := by unfold is2; cases isN a <;> cases isN b <;> rfl
def zonesL (a b : Int) : Int := if is2 a b = true then lowF a b 40 else 0
def zonesH (a b : Int) : Int := if is2 a b = true then highF a b 40 else 0
def zonesE (a b : Int) : Int := if is2 a b = true then 0 else 1
theorem zones_swap (a b : Int) : zonesL a b = zonesL b a ∧ zonesH a b = zonesH b a ∧ zonesE a b = zonesE b a := by
  unfold zonesL zonesH zonesE; rw [is2_swap a b, low_swap, high_swap]; exact ⟨rfl, rfl, rfl⟩
theorem ways_facts {a b s : Int} (h : is3 a b s = true) (hb : between a b s = true) : zonesE a b = 0 ∧ zoneE s = 0 ∧ zonesL a b ≤ zoneV s ∧ zoneV s ≤ zonesH a b := by
  obtain ⟨h1, h2, h3⟩ := (is3_iff a b s).1 h
  have hs := (isN_iff s).1 h3
  have h12 : is2 a b = true := (is2_iff a b).2 ⟨h1, h2⟩
  have e : ((s.toNat : Nat) : Int) = s := by omega
  have l := low_le a b 40 s.toNat (by omega) (by rw [e]; exact hb)
  have u := le_high a b 40 s.toNat (by omega) (by rw [e]; exact hb)
  rw [e] at l u
  unfold zonesE zoneE zonesL zoneV zonesH
  rw [if_pos h12, if_pos h3, if_pos h12, if_pos h3, if_pos h12]
  exact ⟨rfl, rfl, l, u⟩
/-- The first k stations whose zone is low to high. -/
def inZ (low high : Int) (k : Nat) : Bool := decide (low ≤ zn (k : Int)) && decide (zn (k : Int) ≤ high)
def stL (low high : Int) (k : Nat) : List Nat := (List.range k).filter (inZ low high)
theorem stL_succ (low high : Int) (k : Nat) : stL low high (k + 1) = if inZ low high k = true then stL low high k ++ [k] else stL low high k := by
  unfold stL
  rw [List.range_succ, List.filter_append]
  cases h : inZ low high k <;> simp [h]
theorem stL_len (low high : Int) (k : Nat) : (stL low high k).length ≤ k := by
  unfold stL
  exact Nat.le_trans (List.length_filter_le _ _) (by simp)
theorem mem_stL {low high : Int} {k x : Nat} : x ∈ stL low high k ↔ x < k ∧ inZ low high x = true := by
  unfold stL; simp
theorem stL_pw (low high : Int) (k : Nat) : (stL low high k).Pairwise (· < ·) := by
  unfold stL
  exact List.Pairwise.filter _ (List.pairwise_lt_range)
def okZ (low high : Int) : Bool := decide (1 ≤ low) && (decide (low ≤ high) && decide (high ≤ 6))
theorem okZ_iff (low high : Int) : okZ low high = true ↔ 1 ≤ low ∧ low ≤ high ∧ high ≤ 6 := by simp [okZ]
def stV (low high : Int) : List Nat := if okZ low high = true then stL low high 40 else []
def stE (low high : Int) : Int := if okZ low high = true then 0 else 1
theorem stV_len (low high : Int) : (stV low high).length ≤ 40 := by
  unfold stV; split
  · exact stL_len _ _ _
  · simp
/-- How often a station stands among the first i of a list. -/
def cntN (l : List Nat) (s : Nat) (i : Nat) : Nat := (l.take i).count s
theorem cntN_succ {l : List Nat} {s i x : Nat} (hx : l[i]? = some x) : cntN l s (i + 1) = if x = s then cntN l s i + 1 else cntN l s i := by
  unfold cntN
  rw [List.take_add_one, hx, List.count_append]
  by_cases e : x = s
  · subst e; simp
  · simp [e]
theorem cnt_all {low high : Int} {s : Nat} (hs : s < 40) : cntN (stL low high 40) s (stL low high 40).length = if inZ low high s = true then 1 else 0 := by
  unfold cntN
  rw [List.take_length]
  have hnd : (stL low high 40).Nodup := (stL_pw low high 40).imp (fun h => Nat.ne_of_lt h)
  by_cases h : inZ low high s = true
  · rw [if_pos h, hnd.count, if_pos (mem_stL.2 ⟨hs, h⟩)]
  · rw [if_neg h, hnd.count, if_neg (fun hm => h (mem_stL.1 hm).2)]
theorem stL_lt {low high : Int} {k i : Nat} {x y : Nat} (hx : (stL low high k)[i]? = some x) (hy : (stL low high k)[i + 1]? = some y) : x < y := by
  have hp := stL_pw low high k
  rw [List.pairwise_iff_getElem] at hp
  obtain ⟨h1, e1⟩ := List.getElem?_eq_some_iff.1 hx
  obtain ⟨h2, e2⟩ := List.getElem?_eq_some_iff.1 hy
  have := hp i (i + 1) h1 h2 (by omega)
  rw [e1, e2] at this
  exact this

theorem le_low {m a b : Int} (hm : m ≤ 6) : ∀ k : Nat, (∀ j : Nat, j < k → between a b (j : Int) = true → m ≤ zn (j : Int)) → m ≤ lowF a b k
  | 0, _ => hm
  | k + 1, h => by
    have ih := le_low (a := a) (b := b) hm k (fun j hj hb => h j (by omega) hb)
    rw [lowF]
    split
    · rename_i hb
      have := h k (by omega) hb
      unfold mn; split <;> omega
    · exact ih
theorem high_le {m a b : Int} (hm : 1 ≤ m) : ∀ k : Nat, (∀ j : Nat, j < k → between a b (j : Int) = true → zn (j : Int) ≤ m) → highF a b k ≤ m
  | 0, _ => hm
  | k + 1, h => by
    have ih := high_le (a := a) (b := b) hm k (fun j hj hb => h j (by omega) hb)
    rw [highF]
    split
    · rename_i hb
      have := h k (by omega) hb
      unfold mx; split <;> omega
    · exact ih
theorem zn_nat {j : Nat} (h : j < 40) : 1 ≤ zn (j : Int) ∧ zn (j : Int) ≤ 6 := zn_in ((isN_iff _).2 (by omega))
theorem way_bounds {a b : Int} (h : is2 a b = true) : 1 ≤ lowF a b 40 ∧ lowF a b 40 ≤ highF a b 40 ∧ highF a b 40 ≤ 6 := by
  obtain ⟨h1, _⟩ := (is2_iff a b).1 h
  have ha := (isN_iff a).1 h1
  have e : ((a.toNat : Nat) : Int) = a := by omega
  have hb : between a b (a.toNat : Int) = true := by rw [e, between_iff]; omega
  have l := low_le a b 40 a.toNat (by omega) hb
  have u := le_high a b 40 a.toNat (by omega) hb
  refine ⟨le_low (by omega) 40 (fun j hj _ => (zn_nat hj).1), by omega, high_le (by omega) 40 (fun j hj _ => (zn_nat hj).2)⟩
theorem low_top (a b : Int) : ∀ k, lowF a b k ≤ 6
  | 0 => Int.le_refl _
  | k + 1 => by
    rw [lowF]; split
    · exact Int.le_trans (mn_left _ _) (low_top a b k)
    · exact low_top a b k
theorem top_high (a b : Int) : ∀ k, 1 ≤ highF a b k
  | 0 => Int.le_refl _
  | k + 1 => by
    rw [highF]; split
    · exact Int.le_trans (top_high a b k) (mx_left _ _)
    · exact top_high a b k
/-- A way within another one has no other zones. -/
theorem way_within {f t a b : Int} (hx : between f t a = true) (hy : between f t b = true) : lowF f t 40 ≤ lowF a b 40 ∧ highF a b 40 ≤ highF f t 40 := by
  rw [between_iff] at hx hy
  have hw : ∀ j : Nat, between a b (j : Int) = true → between f t (j : Int) = true := fun j h => by
    rw [between_iff] at h ⊢; omega
  constructor
  · exact le_low (low_top f t 40) 40 (fun j hj h => low_le f t 40 j hj (hw j h))
  · exact high_le (top_high f t 40) 40 (fun j hj h => le_high f t 40 j hj (hw j h))
def okB (z : Int) : Bool := decide (1 ≤ z) && decide (z ≤ 6)
theorem okB_iff (z : Int) : okB z = true ↔ 1 ≤ z ∧ z ≤ 6 := by simp [okB]
def basN (z : Int) : Int := 180 + 95 * (z - 1)
def baseV (z : Int) : Int := if okB z = true then basN z else 0
def baseE (z : Int) : Int := if okB z = true then 0 else 1
/-- What a railcard takes off. -/
def offN (p c : Int) : Int := if c = 1 then p / 3 else if c = 2 then p / 2 else if c = 3 then p / 10 else 0
def okC (p c : Int) : Bool := decide (0 ≤ p) && (decide (p ≤ 1000000000) && (decide (0 ≤ c) && decide (c ≤ 3)))
theorem okC_iff (p c : Int) : okC p c = true ↔ 0 ≤ p ∧ p ≤ 1000000000 ∧ 0 ≤ c ∧ c ≤ 3 := by simp [okC]
def cutN (p c : Int) : Int := mx (p - offN p c) (mn p 100)
def cutV (p c : Int) : Int := if okC p c = true then cutN p c else 0
def cutE (p c : Int) : Int := if okC p c = true then 0 else 1
theorem cut_mono {p q c : Int} (hp : 0 ≤ p) (h : p ≤ q) : cutN p c ≤ cutN q c := by
  unfold cutN mx mn offN
  repeat' split
  all_goals omega
theorem cut_none (p : Int) (hp : 0 ≤ p) (c : Int) : cutN p c ≤ cutN p 0 := by
  unfold cutN mx mn offN
  repeat' split
  all_goals omega
theorem cut_least (p c : Int) (hp : 100 ≤ p) : 100 ≤ cutN p c := by
  unfold cutN mx mn
  repeat' split
  all_goals omega
def okS (f t cl c : Int) : Bool := is2 f t && (decide (1 ≤ cl) && (decide (cl ≤ 2) && (decide (0 ≤ c) && decide (c ≤ 3))))
theorem okS_iff (f t cl c : Int) : okS f t cl c = true ↔ is2 f t = true ∧ 1 ≤ cl ∧ cl ≤ 2 ∧ 0 ≤ c ∧ c ≤ 3 := by simp [okS]
/-- The number of zones, and the price of a way ahead of the railcard. -/
def nZ (f t : Int) : Int := highF f t 40 - lowF f t 40 + 1
def fullN (f t cl : Int) : Int := if cl = 1 then basN (nZ f t) + basN (nZ f t) / 2 else basN (nZ f t)
def singleV (f t cl c : Int) : Int := if okS f t cl c = true then cutN (fullN f t cl) c else 0
def singleE (f t cl c : Int) : Int := if okS f t cl c = true then 0 else 1
theorem nZ_in {f t : Int} (h : is2 f t = true) : 1 ≤ nZ f t ∧ nZ f t ≤ 6 := by have := way_bounds h; unfold nZ; omega
theorem full_in {f t : Int} (h : is2 f t = true) (cl : Int) : 180 ≤ fullN f t cl ∧ fullN f t cl ≤ 1000 := by
  have := nZ_in h
  unfold fullN basN
  split <;> omega
theorem full_class {f t : Int} (h : is2 f t = true) (cl : Int) : fullN f t cl ≤ fullN f t 1 := by
  have := nZ_in h
  unfold fullN basN
  rw [if_pos rfl]
  split <;> omega
theorem single_swap (f t cl c : Int) : singleV t f cl c = singleV f t cl c ∧ singleE t f cl c = singleE f t cl c := by
  have e1 : okS t f cl c = okS f t cl c := by unfold okS; rw [is2_swap t f]
  have e2 : fullN t f cl = fullN f t cl := by unfold fullN nZ; rw [low_swap, high_swap]
  unfold singleV singleE
  rw [e1, e2]
  exact ⟨rfl, rfl⟩
theorem order_facts8 {f t cl c : Int} (h : okS f t cl c = true) : singleE f t 1 c = 0 ∧ singleE f t cl 0 = 0 ∧ singleV f t cl c ≤ singleV f t 1 c ∧ singleV f t cl c ≤ singleV f t cl 0 ∧ 90 ≤ singleV f t cl c := by
  have hs := (okS_iff _ _ _ _).1 h
  have h1 : okS f t 1 c = true := (okS_iff _ _ _ _).2 ⟨hs.1, by omega, by omega, by omega, by omega⟩
  have h0 : okS f t cl 0 = true := (okS_iff _ _ _ _).2 ⟨hs.1, by omega, by omega, by omega, by omega⟩
  have hf := full_in hs.1 cl
  unfold singleE singleV
  rw [if_pos h1, if_pos h0, if_pos h, if_pos h1, if_pos h0]
  refine ⟨rfl, rfl, cut_mono (by omega) (full_class hs.1 cl), cut_none _ (by omega) c, ?_⟩
  have := cut_least (fullN f t cl) c (by omega)
  omega
theorem far_facts {f t a b cl c : Int} (h : okS f t cl c = true) (h2 : okS a b cl c = true) (hx : between f t a = true) (hy : between f t b = true) : singleV a b cl c ≤ singleV f t cl c := by
  have hs := (okS_iff _ _ _ _).1 h
  have hs2 := (okS_iff _ _ _ _).1 h2
  have hw := way_within hx hy
  have hn : nZ a b ≤ nZ f t := by unfold nZ; omega
  have n1 := nZ_in hs2.1
  have hf := full_in hs2.1 cl
  unfold singleV
  rw [if_pos h, if_pos h2]
  refine cut_mono (by omega) ?_
  unfold fullN basN
  split <;> omega
def okK (p l a : Int) : Bool := decide (0 ≤ p) && (decide (p ≤ 1000000000) && (decide (1 ≤ a) && (decide (a ≤ 20) && (decide (0 ≤ l) && decide (l ≤ a)))))
theorem okK_iff (p l a : Int) : okK p l a = true ↔ 0 ≤ p ∧ p ≤ 1000000000 ∧ 1 ≤ a ∧ a ≤ 20 ∧ 0 ≤ l ∧ l ≤ a := by simp [okK]
def backN (p l a : Int) : Int := mx 0 (p * l / a - 150)
def backV (p l a : Int) : Int := if okK p l a = true then backN p l a else 0
def backE (p l a : Int) : Int := if okK p l a = true then 0 else 1
theorem mx0_mono {x y : Int} (h : x ≤ y) : mx 0 x ≤ mx 0 y := by unfold mx; split <;> split <;> omega
theorem back_mono {p l m a : Int} (hp : 0 ≤ p) (ha : 1 ≤ a) (h : l ≤ m) : backN p l a ≤ backN p m a := by
  unfold backN
  refine mx0_mono ?_
  have := Int.ediv_le_ediv (show (0 : Int) < a by omega) (Int.mul_le_mul_of_nonneg_left h hp)
  omega
theorem less_facts {p l a : Int} (h : okK p l a = true) : backE p a a = 0 ∧ 0 ≤ backV p l a ∧ backV p l a ≤ backV p a a ∧ backV p a a ≤ p ∧ (l = 0 → backV p l a = 0) ∧ (l ≠ 0 → backE p (l - 1) a = 0 ∧ backV p (l - 1) a ≤ backV p l a) := by
  have hk := (okK_iff _ _ _).1 h
  have ha : okK p a a = true := (okK_iff _ _ _).2 (by omega)
  have e0 : backV p l a = backN p l a := by rw [backV, if_pos h]
  have e1 : backV p a a = backN p a a := by rw [backV, if_pos ha]
  rw [e0, e1]
  refine ⟨by rw [backE, if_pos ha], ?_, back_mono hk.1 hk.2.2.1 hk.2.2.2.2.2, ?_, ?_, ?_⟩
  · unfold backN mx; split <;> omega
  · unfold backN
    rw [Int.mul_ediv_cancel _ (by omega)]
    unfold mx; split <;> omega
  · intro hl
    subst hl
    unfold backN
    rw [Int.mul_zero, Int.zero_ediv]
    rfl
  · intro hl
    have h1 : okK p (l - 1) a = true := (okK_iff _ _ _).2 (by omega)
    rw [backE, backV, if_pos h1, if_pos h1]
    exact ⟨rfl, back_mono hk.1 hk.2.2.1 (by omega)⟩

/-- A ticket's eleven numbers. -/
structure Tk where
  ser : Int
  kind : Int
  frm : Int
  till : Int
  cls : Int
  card : Int
  seat : Int
  day : Int
  days : Int
  uses : Int
  epoch : Int
def placeB (t : Tk) : Bool := if t.kind = 3 then decide (1 ≤ t.frm) && (decide (t.frm ≤ t.till) && decide (t.till ≤ 6)) else isN t.frm && (isN t.till && (t.frm != t.till))
def usesB (t : Tk) : Bool := if t.kind = 4 then decide (2 ≤ t.uses) && decide (t.uses ≤ 20) else t.uses == t.kind.tmod 3
def numsB (t : Tk) : Bool := decide (1 ≤ t.ser) && (decide (t.ser ≤ 1099511627776) && (decide (1 ≤ t.kind) && (decide (t.kind ≤ 4) && (decide (1 ≤ t.cls) && (decide (t.cls ≤ 2) && (decide (0 ≤ t.card) && (decide (t.card ≤ 3) && (decide (0 ≤ t.seat) && decide (t.seat ≤ 999)))))))))
def daysB (t : Tk) : Bool := decide (0 ≤ t.day) && (decide (t.day ≤ 99999) && (decide (1 ≤ t.days) && (decide (t.days ≤ 999) && (decide (t.day + t.days ≤ 100000) && (decide (0 ≤ t.epoch) && decide (t.epoch ≤ 9))))))
def okT (t : Tk) : Bool := numsB t && (daysB t && (placeB t && usesB t))
theorem numsB_iff (t : Tk) : numsB t = true ↔ 1 ≤ t.ser ∧ t.ser ≤ 1099511627776 ∧ 1 ≤ t.kind ∧ t.kind ≤ 4 ∧ 1 ≤ t.cls ∧ t.cls ≤ 2 ∧ 0 ≤ t.card ∧ t.card ≤ 3 ∧ 0 ≤ t.seat ∧ t.seat ≤ 999 := by simp [numsB]
theorem daysB_iff (t : Tk) : daysB t = true ↔ 0 ≤ t.day ∧ t.day ≤ 99999 ∧ 1 ≤ t.days ∧ t.days ≤ 999 ∧ t.day + t.days ≤ 100000 ∧ 0 ≤ t.epoch ∧ t.epoch ≤ 9 := by simp [daysB]
theorem okT_iff (t : Tk) : okT t = true ↔ numsB t = true ∧ daysB t = true ∧ placeB t = true ∧ usesB t = true := by simp [okT]
def lastV (t : Tk) : Int := if okT t = true then t.day + t.days - 1 else 0
def errT (t : Tk) : Int := if okT t = true then 0 else 1
def okV (t : Tk) (s : Int) : Bool := okT t && isN s
def covN (t : Tk) (s : Int) : Bool := if t.kind = 3 then decide (t.frm ≤ zn s) && decide (zn s ≤ t.till) else between t.frm t.till s
def covV (t : Tk) (s : Int) : Bool := if okV t s = true then covN t s else false
def covE (t : Tk) (s : Int) : Int := if okV t s = true then 0 else 1
/-- A day's price of a season. -/
def dayP (t : Tk) : Int := if t.cls = 1 then basN (t.till - t.frm + 1) + basN (t.till - t.frm + 1) / 2 else basN (t.till - t.frm + 1)
def oneP (t : Tk) : Int := singleV t.frm t.till t.cls t.card
def priceN (t : Tk) : Int := if t.kind = 3 then cutN (dayP t * t.days) t.card else if t.kind = 2 then 2 * oneP t - 2 * oneP t / 10 else if t.kind = 4 then t.uses * oneP t - t.uses * oneP t / 5 else oneP t
def priceV (t : Tk) : Int := if okT t = true then priceN t else 0
theorem way_of {t : Tk} (h : okT t = true) (hk : t.kind ≠ 3) : isN t.frm = true ∧ isN t.till = true ∧ t.frm ≠ t.till := by
  have hp := ((okT_iff t).1 h).2.2.1
  rw [placeB, if_neg hk] at hp
  simpa using hp
theorem zones_of {t : Tk} (h : okT t = true) (hk : t.kind = 3) : 1 ≤ t.frm ∧ t.frm ≤ t.till ∧ t.till ≤ 6 := by
  have hp := ((okT_iff t).1 h).2.2.1
  rw [placeB, if_pos hk] at hp
  simpa using hp
theorem single_ok {t : Tk} (h : okT t = true) (hk : t.kind ≠ 3) : okS t.frm t.till t.cls t.card = true := by
  have hn := (numsB_iff t).1 ((okT_iff t).1 h).1
  have hw := way_of h hk
  exact (okS_iff _ _ _ _).2 ⟨(is2_iff _ _).2 ⟨hw.1, hw.2.1⟩, by omega, by omega, by omega, by omega⟩
theorem one_in {t : Tk} (h : okT t = true) (hk : t.kind ≠ 3) : 100 ≤ oneP t ∧ oneP t ≤ 1000 := by
  have hs := single_ok h hk
  have h2 := ((okS_iff _ _ _ _).1 hs).1
  have hf := full_in h2 t.cls
  have hn := (numsB_iff t).1 ((okT_iff t).1 h).1
  rw [oneP, singleV, if_pos hs]
  refine ⟨cut_least _ _ (by omega), ?_⟩
  have h1 := cut_none (fullN t.frm t.till t.cls) (by omega) t.card
  have h3 : cutN (fullN t.frm t.till t.cls) 0 = fullN t.frm t.till t.cls := by
    unfold cutN mx mn offN
    simp only [if_neg (show ¬ ((0 : Int) = 1) by decide), if_neg (show ¬ ((0 : Int) = 2) by decide), if_neg (show ¬ ((0 : Int) = 3) by decide)]
    split <;> split <;> omega
  omega
theorem dayP_in {t : Tk} (h : okT t = true) (hk : t.kind = 3) : 180 ≤ dayP t ∧ dayP t ≤ 1000 := by
  have hz := zones_of h hk
  unfold dayP basN
  split <;> omega
theorem total_in {t : Tk} (h : okT t = true) (hk : t.kind = 3) : 180 ≤ dayP t * t.days ∧ dayP t * t.days ≤ 1000000 := by
  have hd := dayP_in h hk
  have hn := (daysB_iff t).1 ((okT_iff t).1 h).2.1
  have m1 : 180 * 1 ≤ dayP t * t.days := Int.mul_le_mul hd.1 hn.2.2.1 (by omega) (by omega)
  have m2 : dayP t * t.days ≤ 1000 * 1000 := Int.mul_le_mul hd.2 (by omega) (by omega) (by omega)
  omega
theorem uses_of {t : Tk} (h : okT t = true) : (t.kind = 4 → 2 ≤ t.uses ∧ t.uses ≤ 20) ∧ (t.kind ≠ 4 → t.uses = t.kind.tmod 3) := by
  have hu := ((okT_iff t).1 h).2.2.2
  constructor
  · intro hk
    rw [usesB, if_pos hk] at hu
    simpa using hu
  · intro hk
    rw [usesB, if_neg hk] at hu
    simpa using hu
/-- The same ticket without a railcard. -/
def noCard (t : Tk) : Tk := { t with card := 0 }
theorem noCard_ok {t : Tk} (h : okT t = true) : okT (noCard t) = true := by
  obtain ⟨h1, h2, h3, h4⟩ := (okT_iff t).1 h
  have hn := (numsB_iff t).1 h1
  exact (okT_iff _).2 ⟨(numsB_iff _).2 ⟨hn.1, hn.2.1, hn.2.2.1, hn.2.2.2.1, hn.2.2.2.2.1, hn.2.2.2.2.2.1, Int.le_refl _, (by decide : (0 : Int) ≤ 3), hn.2.2.2.2.2.2.2.2.1, hn.2.2.2.2.2.2.2.2.2⟩, h2, h3, h4⟩
theorem costs_facts {t : Tk} (h : okT t = true) : errT (noCard t) = 0 ∧ priceV t ≤ priceV (noCard t) ∧ 1 ≤ priceV t ∧
    (t.kind ≠ 3 → singleE t.frm t.till t.cls t.card = 0 ∧ priceV t ≤ t.uses * oneP t ∧ (t.kind = 1 → priceV t = oneP t)) := by
  have h0 := noCard_ok h
  have hn := (numsB_iff t).1 ((okT_iff t).1 h).1
  have e1 : priceV t = priceN t := by rw [priceV, if_pos h]
  have e2 : priceV (noCard t) = priceN (noCard t) := by rw [priceV, if_pos h0]
  rw [e1, e2]
  refine ⟨by rw [errT, if_pos h0], ?_⟩
  by_cases hk : t.kind = 3
  · have ht := total_in h hk
    have p1 : priceN t = cutN (dayP t * t.days) t.card := by rw [priceN, if_pos hk]
    have p2 : priceN (noCard t) = cutN (dayP t * t.days) 0 := by rw [priceN, if_pos (show (noCard t).kind = 3 from hk)]; rfl
    rw [p1, p2]
    refine ⟨cut_none _ (by omega) _, ?_, fun hne => absurd hk hne⟩
    have := cut_least (dayP t * t.days) t.card (by omega)
    omega
  · have ho := one_in h hk
    have ho0 := one_in h0 (show (noCard t).kind ≠ 3 from hk)
    have hs := single_ok h hk
    have hle : oneP t ≤ oneP (noCard t) := (order_facts8 hs).2.2.2.1
    have hu := uses_of h
    refine ⟨?_, ?_, fun _ => ⟨by rw [singleE, if_pos hs], ?_, ?_⟩⟩
    · unfold priceN
      rw [if_neg hk, if_neg (show ¬ (noCard t).kind = 3 from hk)]
      show _ ≤ (if t.kind = 2 then 2 * oneP (noCard t) - 2 * oneP (noCard t) / 10 else if t.kind = 4 then t.uses * oneP (noCard t) - t.uses * oneP (noCard t) / 5 else oneP (noCard t))
      by_cases h2 : t.kind = 2
      · rw [if_pos h2, if_pos h2]; omega
      · rw [if_neg h2, if_neg h2]
        by_cases h4 : t.kind = 4
        · rw [if_pos h4, if_pos h4]
          have := Int.mul_le_mul_of_nonneg_left hle (show 0 ≤ t.uses by have := hu.1 h4; omega)
          omega
        · rw [if_neg h4, if_neg h4]; exact hle
    · unfold priceN
      rw [if_neg hk]
      by_cases h2 : t.kind = 2
      · rw [if_pos h2]; omega
      · rw [if_neg h2]
        by_cases h4 : t.kind = 4
        · rw [if_pos h4]
          have := hu.1 h4
          have m1 : 2 * 100 ≤ t.uses * oneP t := Int.mul_le_mul this.1 ho.1 (by omega) (by omega)
          omega
        · rw [if_neg h4]; omega
    · unfold priceN
      rw [if_neg hk]
      by_cases h2 : t.kind = 2
      · rw [if_pos h2]
        have e : t.uses = 2 := by rw [hu.2 (by omega), h2]; rfl
        rw [e]; omega
      · rw [if_neg h2]
        by_cases h4 : t.kind = 4
        · rw [if_pos h4]
          have := hu.1 h4
          have m1 : 0 ≤ t.uses * oneP t := Int.mul_nonneg (by omega) (by omega)
          omega
        · rw [if_neg h4]
          have h1 : t.kind = 1 := by omega
          have e : t.uses = 1 := by rw [hu.2 (by omega), h1]; rfl
          rw [e]; omega
    · intro h1
      unfold priceN
      rw [if_neg hk, if_neg (by omega), if_neg (by omega)]
/-- The same ticket by another serial, seat, first day and number of exchanges. -/
def likeT (t u : Tk) : Tk := { t with ser := u.ser, seat := u.seat, day := u.day, epoch := u.epoch }
theorem alike_facts {t u : Tk} (h : okT t = true) (h2 : okT (likeT t u) = true) : priceV (likeT t u) = priceV t := by
  rw [priceV, priceV, if_pos h, if_pos h2]; rfl
/-- How many of the first k stations are covered. -/
def covC (t : Tk) : Nat → Nat
  | 0 => 0
  | k + 1 => if covN t (k : Int) = true then covC t k + 1 else covC t k
theorem covC_le (t : Tk) : ∀ k, covC t k ≤ k
  | 0 => Nat.le_refl _
  | k + 1 => by have := covC_le t k; rw [covC]; split <;> omega
theorem covC_season {t : Tk} (hk : t.kind = 3) : ∀ k : Nat, covC t k = (stL t.frm t.till k).length
  | 0 => rfl
  | k + 1 => by
    rw [covC, stL_succ, covC_season hk k]
    have e : covN t (k : Int) = inZ t.frm t.till k := by rw [covN, if_pos hk]; rfl
    rw [e]
    split
    · simp
    · rfl
theorem covC_way {t : Tk} (hk : t.kind ≠ 3) (a b : Nat) (ha : (a : Int) = t.frm ∨ (a : Int) = t.till) (hb : ((a : Int) = t.frm ∧ (b : Int) = t.till) ∨ ((a : Int) = t.till ∧ (b : Int) = t.frm)) (hab : a ≤ b) : ∀ k : Nat, covC t k = min k (b + 1) - min k a
  | 0 => by rw [covC]; omega
  | k + 1 => by
    rw [covC, covC_way hk a b ha hb hab k]
    have e : covN t (k : Int) = true ↔ (a ≤ k ∧ k ≤ b) := by
      rw [covN, if_neg hk, between_iff]
      omega
    by_cases h : a ≤ k ∧ k ≤ b
    · rw [if_pos (e.2 h)]; omega
    · rw [if_neg (fun hh => h (e.1 hh))]; omega
theorem way_count {t : Tk} (h : okT t = true) (hk : t.kind ≠ 3) : (covC t 40 : Int) = t.till - t.frm + 1 ∨ (covC t 40 : Int) = t.frm - t.till + 1 := by
  obtain ⟨h1, h2, _⟩ := way_of h hk
  have i1 := (isN_iff _).1 h1
  have i2 := (isN_iff _).1 h2
  rcases Int.le_total t.frm t.till with hl | hl
  · have := covC_way hk t.frm.toNat t.till.toNat (.inl (by omega)) (.inl ⟨by omega, by omega⟩) (by omega) 40
    refine .inl ?_
    rw [this]; omega
  · have := covC_way hk t.till.toNat t.frm.toNat (.inr (by omega)) (.inr ⟨by omega, by omega⟩) (by omega) 40
    refine .inr ?_
    rw [this]; omega
theorem ends_covered {t : Tk} (h : okT t = true) (hk : t.kind ≠ 3) : covV t t.frm = true ∧ covE t t.frm = 0 ∧ covV t t.till = true ∧ covE t t.till = 0 := by
  obtain ⟨h1, h2, _⟩ := way_of h hk
  have o1 : okV t t.frm = true := by rw [okV, h, h1]; rfl
  have o2 : okV t t.till = true := by rw [okV, h, h2]; rfl
  have c1 : covN t t.frm = true := by rw [covN, if_neg hk, between_iff]; omega
  have c2 : covN t t.till = true := by rw [covN, if_neg hk, between_iff]; omega
  unfold covV covE
  rw [if_pos o1, if_pos o1, if_pos o2, if_pos o2]
  exact ⟨c1, rfl, c2, rfl⟩
set_option linter.unusedVariables false
open Go.ChangeShapes Go.WideShapes Go.ChangeAt Go.RowKit

theorem infoTk : (Try.prog.info? 23).map (·.size) = some 11 := by kernel_rfl
theorem tc_one (a0 a1 a2 a3 a4 a5 a6 a7 a8 a9 a10 : Int) : (#[Value.int .i64 a0, Value.int .i64 a1, Value.int .i64 a2, Value.int .i64 a3, Value.int .i64 a4, Value.int .i64 a5, Value.int .i64 a6, Value.int .i64 a7, Value.int .i64 a8, Value.int .i64 a9, Value.int .i64 a10] : Array Value).all (·.oneCell') = true := by
  rw [Array.all_eq_true_iff_forall_mem]
  intro u hu
  simp at hu
  rcases hu with rfl | rfl | rfl | rfl | rfl | rfl | rfl | rfl | rfl | rfl | rfl <;> rfl
def TBox (w : World) (b : Nat) (t : Tk) : Prop := w.heap[b]? = some (.cells #[.int .i64 t.ser, .int .i64 t.kind, .int .i64 t.frm, .int .i64 t.till, .int .i64 t.cls, .int .i64 t.card, .int .i64 t.seat, .int .i64 t.day, .int .i64 t.days, .int .i64 t.uses, .int .i64 t.epoch] 23 (0, 0))
theorem TBox.lt {w : World} {b : Nat} {t : Tk} (h : TBox w b t) : b < w.heap.size := (Array.getElem?_eq_some_iff.1 h).1
theorem TBox.next {w w' : World} {b : Nat} {t : Tk} (h : TBox w b t) (hb : Below w.heap.size w w') : TBox w' b t := (hb.block _ h.lt).trans h
theorem TBox.cells {w : World} {b : Nat} {t : Tk} (h : TBox w b t) : w.cell? ⟨b, 0, none⟩ = some (.int .i64 t.ser) ∧ w.cell? ⟨b, 1, none⟩ = some (.int .i64 t.kind) ∧ w.cell? ⟨b, 2, none⟩ = some (.int .i64 t.frm) ∧ w.cell? ⟨b, 3, none⟩ = some (.int .i64 t.till) ∧ w.cell? ⟨b, 4, none⟩ = some (.int .i64 t.cls) ∧ w.cell? ⟨b, 5, none⟩ = some (.int .i64 t.card) ∧ w.cell? ⟨b, 6, none⟩ = some (.int .i64 t.seat) ∧ w.cell? ⟨b, 7, none⟩ = some (.int .i64 t.day) ∧ w.cell? ⟨b, 8, none⟩ = some (.int .i64 t.days) ∧ w.cell? ⟨b, 9, none⟩ = some (.int .i64 t.uses) ∧ w.cell? ⟨b, 10, none⟩ = some (.int .i64 t.epoch) :=
  ⟨by rw [cell_of_row w b 0 _ _ (0, 0) h]; rfl, by rw [cell_of_row w b 1 _ _ (0, 0) h]; rfl, by rw [cell_of_row w b 2 _ _ (0, 0) h]; rfl, by rw [cell_of_row w b 3 _ _ (0, 0) h]; rfl, by rw [cell_of_row w b 4 _ _ (0, 0) h]; rfl, by rw [cell_of_row w b 5 _ _ (0, 0) h]; rfl, by rw [cell_of_row w b 6 _ _ (0, 0) h]; rfl, by rw [cell_of_row w b 7 _ _ (0, 0) h]; rfl, by rw [cell_of_row w b 8 _ _ (0, 0) h]; rfl, by rw [cell_of_row w b 9 _ _ (0, 0) h]; rfl, by rw [cell_of_row w b 10 _ _ (0, 0) h]; rfl⟩
theorem TBox.frozen {w : World} {b : Nat} {t : Tk} (h : TBox w b t) (j : Nat) : w.frozen? ⟨b, j, none⟩ = false := frozen_of_row w b j _ _ h
theorem TBox.new (w : World) (t : Tk) : TBox (w.alloc (.cells #[.int .i64 t.ser, .int .i64 t.kind, .int .i64 t.frm, .int .i64 t.till, .int .i64 t.cls, .int .i64 t.card, .int .i64 t.seat, .int .i64 t.day, .int .i64 t.days, .int .i64 t.uses, .int .i64 t.epoch] 23)) w.heap.size t := heap_alloc_new w _
theorem tbox_made {w1 w2 : World} {cc : Array Value} {t : Tk} (h : w2 = (w1.alloc (.cells cc 23)).setRow w1.heap.size #[.int .i64 t.ser, .int .i64 t.kind, .int .i64 t.frm, .int .i64 t.till, .int .i64 t.cls, .int .i64 t.card, .int .i64 t.seat, .int .i64 t.day, .int .i64 t.days, .int .i64 t.uses, .int .i64 t.epoch]) :
    TBox w2 w1.heap.size t ∧ Below w1.heap.size w1 w2 := by
  subst h
  exact ⟨setRow_heap _ _ _ _ _ _ (heap_alloc_new w1 _), below_setRow ((Below.refl _ _).alloc (Nat.le_refl _) _) (Nat.le_refl _) _⟩
end Go.Proofs.Ytaldpioahnbkgaa
