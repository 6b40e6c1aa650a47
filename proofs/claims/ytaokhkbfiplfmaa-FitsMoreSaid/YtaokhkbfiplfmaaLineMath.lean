/-
  Plain facts for layer 7 (line): stations, zones, ways. No memory and no program here.
-/
import Derived.KernelRfl
namespace Go.Proofs.Ytaokhkbfiplfmaa

def isN (s : Int) : Bool := decide (0 ≤ s) && decide (s ≤ 39)
theorem isN_iff (s : Int) : isN s = true ↔ 0 ≤ s ∧ s ≤ 39 := by simp [isN]
/-- The zone of a station. -/
def zn (s : Int) : Int := if s < 20 then 1 + (20 - s) / 4 else 1 + (s - 20) / 4
theorem zn_in {s : Int} (h : isN s = true) : 1 ≤ zn s ∧ zn s ≤ 6 := by
  have := (isN_iff s).1 h
  unfold zn; split <;> omega
theorem zn_next {s : Int} (h : isN s = true) : zn s - zn (s + 1) ≤ 1 ∧ zn (s + 1) - zn s ≤ 1 := by
  have := (isN_iff s).1 h
  unfold zn; split <;> split <;> omega
def zoneV (s : Int) : Int := if isN s = true then zn s else 0
def zoneE (s : Int) : Int := if isN s = true then 0 else 1
def between (a b s : Int) : Bool := (decide (a ≤ s) && decide (s ≤ b)) || (decide (b ≤ s) && decide (s ≤ a))
theorem between_iff (a b s : Int) : between a b s = true ↔ (a ≤ s ∧ s ≤ b) ∨ (b ≤ s ∧ s ≤ a) := by simp [between]
theorem between_swap (a b s : Int) : between a b s = between b a s := by rw [Bool.eq_iff_iff, between_iff, between_iff]; exact Or.comm
def is3 (a b s : Int) : Bool := isN a && (isN b && isN s)
theorem is3_iff (a b s : Int) : is3 a b s = true ↔ isN a = true ∧ isN b = true ∧ isN s = true := by simp [is3]
theorem is3_swap (a b s : Int) : is3 a b s = is3 b a s := by unfold is3; cases isN a <;> cases isN b <;> rfl
def betV (a b s : Int) : Bool := if is3 a b s = true then between a b s else false
def betE (a b s : Int) : Int := if is3 a b s = true then 0 else 1
theorem bet_swap (a b s : Int) : betV a b s = betV b a s ∧ betE a b s = betE b a s := by
  unfold betV betE; rw [is3_swap a b s, between_swap a b s]; exact ⟨rfl, rfl⟩
/-- The lesser and the greater of two, as they are told. -/
def mn (x z : Int) : Int := if z < x then z else x
def mx (x z : Int) : Int := if x < z then z else x
theorem mn_left (x z : Int) : mn x z ≤ x := by unfold mn; split <;> omega
theorem mn_right (x z : Int) : mn x z ≤ z := by unfold mn; split <;> omega
theorem mx_left (x z : Int) : x ≤ mx x z := by unfold mx; split <;> omega
theorem mx_right (x z : Int) : z ≤ mx x z := by unfold mx; split <;> omega
/-- The least and the greatest zone of the first k stations that are on the way. -/
def lowF (a b : Int) : Nat → Int
  | 0 => 6
  | k + 1 => if between a b (k : Int) = true then mn (lowF a b k) (zn (k : Int)) else lowF a b k
def highF (a b : Int) : Nat → Int
  | 0 => 1
  | k + 1 => if between a b (k : Int) = true then mx (highF a b k) (zn (k : Int)) else highF a b k
theorem low_swap (a b : Int) : ∀ k, lowF a b k = lowF b a k
  | 0 => rfl
  | k + 1 => by rw [lowF, lowF, low_swap a b k, between_swap a b]
theorem high_swap (a b : Int) : ∀ k, highF a b k = highF b a k
  | 0 => rfl
  | k + 1 => by rw [highF, highF, high_swap a b k, between_swap a b]
theorem low_le (a b : Int) : ∀ (k j : Nat), j < k → between a b (j : Int) = true → lowF a b k ≤ zn (j : Int)
  | k + 1, j, hj, hb => by
    rw [lowF]
    rcases Nat.lt_or_ge j k with h | h
    · have := low_le a b k j h hb
      split
      · exact Int.le_trans (mn_left _ _) this
      · exact this
    · have e : j = k := by omega
      subst e
      rw [if_pos hb]; exact mn_right _ _
theorem le_high (a b : Int) : ∀ (k j : Nat), j < k → between a b (j : Int) = true → zn (j : Int) ≤ highF a b k
  | k + 1, j, hj, hb => by
    rw [highF]
    rcases Nat.lt_or_ge j k with h | h
    · have := le_high a b k j h hb
      split
      · exact Int.le_trans this (mx_left _ _)
      · exact this
    · have e : j = k := by omega
      subst e
      rw [if_pos hb]; exact mx_right _ _
def is2 (a b : Int) : Bool := isN a && isN b
theorem is2_iff (a b : Int) : is2 a b = true ↔ isN a = true ∧ isN b = true := by simp [is2]
theorem is2_swap (a b : Int) : is2 a b = is2 b a := by unfold is2; cases isN a <;> cases isN b <;> rfl
def zonesL (a b : Int) : Int := if is2 a b = true then lowF a b 40 else 0
def zonesH (a b : Int) : Int := if is2 a b = true then highF a b 40 else 0
def zonesE (a b : Int) : Int := if is2 a b = true then 0 else 1
theorem zones_swap (a b : Int) : zonesL a b = zonesL b a ∧ zonesH a b = zonesH b a ∧ zonesE a b = zonesE b a := by
  unfold zonesL zonesH zonesE; rw [is2_swap a b, low_swap, high_swap]; exact ⟨rfl, rfl, rfl⟩
theorem ways_facts {a b s : Int} (h : is3 a b s = true) (hb : between a b s = true) : zonesE a b = 0 ∧ zoneE s = 0 ∧ zonesL a b ≤ zoneV s ∧ zoneV s ≤ zonesH a b := by
  obtain ⟨h1, h2, h3⟩ := (is3_iff a b s).1 h
  have hs := (isN_iff s).1 h3
  have h12 : is2 a b = true := (is2_iff a b).2 ⟨h1, h2⟩
  have e : ((s.toNat : Nat) : Int) = s := by omega
  have l := low_le a b 40 s.toNat (by omega) (by rw [e]; exact hb)
  have u := le_high a b 40 s.toNat (by omega) (by rw [e]; exact hb)
  rw [e] at l u
  unfold zonesE zoneE zonesL zoneV zonesH
  rw [if_pos h12, if_pos h3, if_pos h12, if_pos h3, if_pos h12]
  exact ⟨rfl, rfl, l, u⟩
/-- The first k stations whose zone is low to high. -/
def inZ (low high : Int) (k : Nat) : Bool := decide (low ≤ zn (k : Int)) && decide (zn (k : Int) ≤ high)
def stL (low high : Int) (k : Nat) : List Nat := (List.range k).filter (inZ low high)
theorem stL_succ (low high : Int) (k : Nat) : stL low high (k + 1) = if inZ low high k = true then stL low high k ++ [k] else stL low high k := by
  unfold stL
  rw [List.range_succ, List.filter_append]
  cases h : inZ low high k <;> simp [h]
theorem stL_len (low high : Int) (k : Nat) : (stL low high k).length ≤ k := by
  unfold stL
  exact Nat.le_trans (List.length_filter_le _ _) (by simp)
theorem mem_stL {low high : Int} {k x : Nat} : x ∈ stL low high k ↔ x < k ∧ inZ low high x = true := by
  unfold stL; simp
theorem stL_pw (low high : Int) (k : Nat) : (stL low high k).Pairwise (· < ·) := by
  unfold stL
  exact List.Pairwise.filter _ (List.pairwise_lt_range)
def okZ (low high : Int) : Bool := decide (1 ≤ low) && (decide (low ≤ high) && decide (high ≤ 6))
theorem okZ_iff (low high : Int) : okZ low high = true ↔ 1 ≤ low ∧ low ≤ high ∧ high ≤ 6 := by simp [okZ]
def stV (low high : Int) : List Nat := if okZ low high = true then stL low high 40 else []
def stE (low high : Int) : Int := if okZ low high = true then 0 else 1
theorem stV_len (low high : Int) : (stV low high).length ≤ 40 := by
  unfold stV; split
  · exact stL_len _ _ _
  · simp
/-- How often a station stands among the first i of a list. -/
def cntN (l : List Nat) (s : Nat) (i : Nat) : Nat := (l.take i).count s
theorem cntN_succ {l : List Nat} {s i x : Nat} (hx : l[i]? = some x) : cntN l s (i + 1) = if x = s then cntN l s i + 1 else cntN l s i := by
  unfold cntN
  rw [List.take_add_one, hx, List.count_append]
  by_cases e : x = s
  · subst e; simp
  · simp [e]
theorem cnt_all {low high : Int} {s : Nat} (hs : s < 40) : cntN (stL low high 40) s (stL low high 40).length = if inZ low high s = true then 1 else 0 := by
  unfold cntN
  rw [List.take_length]
  have hnd : (stL low high 40).Nodup := (stL_pw low high 40).imp (fun h => Nat.ne_of_lt h)
  by_cases h : inZ low high s = true
  · rw [if_pos h, hnd.count, if_pos (mem_stL.2 ⟨hs, h⟩)]
  · rw [if_neg h, hnd.count, if_neg (fun hm => h (mem_stL.1 hm).2)]
theorem stL_lt {low high : Int} {k i : Nat} {x y : Nat} (hx : (stL low high k)[i]? = some x) (hy : (stL low high k)[i + 1]? = some y) : x < y := by
  have hp := stL_pw low high k
  rw [List.pairwise_iff_getElem] at hp
  obtain ⟨h1, e1⟩ := List.getElem?_eq_some_iff.1 hx
  obtain ⟨h2, e2⟩ := List.getElem?_eq_some_iff.1 hy
  have := hp i (i + 1) h1 h2 (by omega)
  rw [e1, e2] at this
  exact this
end Go.Proofs.Ytaokhkbfiplfmaa
