/-
  Numbers as decimal digits: what package bcd's functions answer, plainly; that digits and numbers are one another's; order. No program; conditions: none.
-/
import Derived.Test.YtpeccmcojocgkaaMath
namespace Go.Proofs.Ytpeccmcojocgkaa
set_option linter.unusedVariables false

/-- The lowest k digits of n, the highest one first. -/
def dg (n : Nat) : Nat → List Nat
  | 0 => []
  | k + 1 => n / 10 ^ k % 10 :: dg n k
theorem dg_len (n : Nat) : ∀ k, (dg n k).length = k
  | 0 => rfl
  | k + 1 => by rw [dg, List.length_cons, dg_len n k]
theorem dg_lt (n : Nat) : ∀ k, ∀ x ∈ dg n k, x ≤ 9
  | 0, x, h => by simp [dg] at h
  | k + 1, x, h => by
    rw [dg, List.mem_cons] at h
    rcases h with rfl | h
    · have := Nat.mod_lt (n / 10 ^ k) (show 0 < 10 by omega); omega
    · exact dg_lt n k x h
theorem dg_snoc (n : Nat) : ∀ k, dg n (k + 1) = dg (n / 10) k ++ [n % 10]
  | 0 => by simp [dg]
  | k + 1 => by
    rw [dg, dg_snoc n k, dg, List.cons_append]
    congr 2
    rw [Nat.pow_succ, Nat.mul_comm, Nat.div_div_eq_div_mul]
/-- Behind k rounds: the lowest k digits, zeros ahead of them. -/
def dgTo (n w k : Nat) : List Nat := List.replicate (w - k) 0 ++ dg n k
theorem dgTo_len (n w k : Nat) (h : k ≤ w) : (dgTo n w k).length = w := by rw [dgTo, List.length_append, List.length_replicate, dg_len]; omega
theorem dgTo_zero (n w : Nat) : dgTo n w 0 = List.replicate w 0 := by simp [dgTo, dg]
theorem dgTo_all (n w : Nat) : dgTo n w w = dg n w := by simp [dgTo]
theorem dgTo_set (n w k : Nat) (h : k < w) : (dgTo n w k).set (w - 1 - k) (n / 10 ^ k % 10) = dgTo n w (k + 1) := by
  obtain ⟨m, hm⟩ : ∃ m, m = w - 1 - k := ⟨_, rfl⟩
  rw [dgTo, dgTo, show w - k = m + 1 by omega, show w - (k + 1) = m by omega, ← hm, dg, List.replicate_succ', List.append_assoc, List.set_append_right _ _ (by simp)]
  simp
def valD (l : List Nat) : Nat := l.foldl (fun a x => 10 * a + x) 0
theorem valD_snoc (l : List Nat) (x : Nat) : valD (l ++ [x]) = 10 * valD l + x := by simp [valD]
theorem valD_append (a : List Nat) : ∀ (n : Nat) (b : List Nat), b.length = n → valD (a ++ b) = valD a * 10 ^ n + valD b
  | 0, b, h => by
    obtain rfl := List.eq_nil_of_length_eq_zero h
    simp [valD]
  | n + 1, b, h => by
    rcases List.eq_nil_or_concat b with rfl | ⟨c, x, rfl⟩
    · simp at h
    · have hc : c.length = n := by simpa using h
      rw [List.concat_eq_append, ← List.append_assoc, valD_snoc, valD_snoc, valD_append a n c hc, Nat.pow_succ, Nat.mul_add, ← Nat.mul_assoc, Nat.mul_comm 10 (valD a), Nat.mul_assoc, Nat.mul_comm 10 (10 ^ n), Nat.add_assoc]
theorem valD_lt : ∀ (n : Nat) (l : List Nat), l.length = n → (∀ x ∈ l, x ≤ 9) → valD l < 10 ^ n
  | 0, l, h, _ => by
    obtain rfl := List.eq_nil_of_length_eq_zero h
    decide
  | n + 1, l, h, h9 => by
    rcases List.eq_nil_or_concat l with rfl | ⟨c, x, rfl⟩
    · simp at h
    · rw [List.concat_eq_append] at h9 ⊢
      have := valD_lt n c (by simpa using h) (fun y hy => h9 y (by simp [hy]))
      have := h9 x (by simp)
      rw [valD_snoc, Nat.pow_succ]; omega
theorem valD_dg : ∀ (k n : Nat), valD (dg n k) = n % 10 ^ k
  | 0, n => by simp [dg, valD, Nat.mod_one]
  | k + 1, n => by
    rw [dg_snoc, valD_snoc, valD_dg k (n / 10), Nat.pow_succ, Nat.mul_comm (10 ^ k) 10, Nat.mod_mul]; omega
theorem dg_valD : ∀ (k : Nat) (l : List Nat), l.length = k → (∀ x ∈ l, x ≤ 9) → dg (valD l) k = l
  | 0, l, h, _ => by rw [List.eq_nil_of_length_eq_zero h]; rfl
  | k + 1, l, h, h9 => by
    rcases List.eq_nil_or_concat l with rfl | ⟨c, x, rfl⟩
    · simp at h
    · rw [List.concat_eq_append] at h9 ⊢
      have hx := h9 x (by simp)
      have e1 : (10 * valD c + x) / 10 = valD c := by omega
      have e2 : (10 * valD c + x) % 10 = x := by omega
      rw [dg_snoc, valD_snoc, e1, e2, dg_valD k c (by simpa using h) (fun y hy => h9 y (by simp [hy]))]
theorem pow_pos10 (k : Nat) : 0 < 10 ^ k := Nat.pow_pos (by omega)

/-- Put: the error, and the digits. -/
def putE (n w : Int) : Int := if n < 0 ∨ w < 0 ∨ 18 < w then 1 else if 10 ^ w.toNat ≤ n.toNat then 23 else 0
def putL (n w : Int) : List Nat := if putE n w = 0 then dg n.toNat w.toNat else []
theorem put_arg {n w : Int} (h : n < 0 ∨ w < 0 ∨ 18 < w) : putE n w = 1 ∧ putL n w = [] := by
  have h1 : putE n w = 1 := by rw [putE, if_pos h]
  exact ⟨h1, by rw [putL, h1, if_neg (by decide)]⟩
theorem put_over {n w : Nat} (h : w ≤ 18) (h2 : 10 ^ w ≤ n) : putE n w = 23 ∧ putL n w = [] := by
  have h1 : putE n w = 23 := by rw [putE, if_neg (by omega), if_pos (by simpa using h2)]
  exact ⟨h1, by rw [putL, h1, if_neg (by decide)]⟩
theorem put_ok {n w : Nat} (h : w ≤ 18) (h2 : n < 10 ^ w) : putE n w = 0 ∧ putL n w = dg n w := by
  have h1 : putE n w = 0 := by rw [putE, if_neg (by omega), if_neg (by simpa using h2)]
  exact ⟨h1, by rw [putL, h1, if_pos rfl]; simp⟩
theorem put_zero {n w : Int} (h : putE n w = 0) : ∃ N W : Nat, n = N ∧ w = W ∧ W ≤ 18 ∧ N < 10 ^ W ∧ putL n w = dg N W := by
  by_cases h1 : n < 0 ∨ w < 0 ∨ 18 < w
  · rw [(put_arg h1).1] at h; cases h
  · by_cases h2 : 10 ^ w.toNat ≤ n.toNat
    · rw [putE, if_neg h1, if_pos h2] at h; cases h
    · exact ⟨n.toNat, w.toNat, by omega, by omega, by omega, by omega, by rw [putL, h, if_pos rfl]⟩
theorem put_lt (n w : Int) : ∀ x ∈ putL n w, x ≤ 9 := by
  intro x hx
  rw [putL] at hx
  split at hx
  · exact dg_lt _ _ x hx
  · simp at hx
theorem put_len {n w : Int} (h : putE n w = 0) : ((putL n w).length : Int) = w := by
  obtain ⟨N, W, rfl, rfl, _, _, h1⟩ := put_zero h
  rw [h1, dg_len]
theorem put_le (n w : Int) : (putL n w).length ≤ 18 := by
  by_cases h : putE n w = 0
  · obtain ⟨N, W, rfl, rfl, hW, _, h1⟩ := put_zero h
    rw [h1, dg_len]; exact hW
  · rw [putL, if_neg h]; simp

/-- Get: behind the digits that were read, a is the number. -/
def getR : List Nat → Nat → Int × Nat
  | [], a => (0, a)
  | x :: l, a => if 9 < x then (7, 0) else getR l (10 * a + x)
def getX (l : List Nat) : Int × Nat := if 18 < l.length then (1, 0) else getR l 0
theorem getR_ok : ∀ (l : List Nat) (a : Nat), (∀ x ∈ l, x ≤ 9) → getR l a = (0, l.foldl (fun a x => 10 * a + x) a)
  | [], a, _ => rfl
  | x :: l, a, h => by
    have := h x (by simp)
    rw [getR, if_neg (by omega), getR_ok l _ (fun y hy => h y (by simp [hy]))]; rfl
theorem getR_bad : ∀ (l : List Nat) (a x : Nat), x ∈ l → 9 < x → getR l a = (7, 0)
  | [], a, x, h, _ => by simp at h
  | y :: l, a, x, h, hx => by
    rw [getR]
    by_cases hy : 9 < y
    · rw [if_pos hy]
    · rw [if_neg hy]
      rw [List.mem_cons] at h
      rcases h with rfl | h
      · exact (hy hx).elim
      · exact getR_bad l _ x h hx
theorem getX_ok {l : List Nat} (h : l.length ≤ 18) (h9 : ∀ x ∈ l, x ≤ 9) : getX l = (0, valD l) := by rw [getX, if_neg (by omega), getR_ok l 0 h9]; rfl
theorem getX_zero {l : List Nat} (h : (getX l).1 = 0) : l.length ≤ 18 ∧ (∀ x ∈ l, x ≤ 9) ∧ (getX l).2 = valD l := by
  by_cases h18 : 18 < l.length
  · rw [getX, if_pos h18] at h; cases h
  · by_cases h9 : ∃ x ∈ l, 9 < x
    · obtain ⟨x, hx, hx9⟩ := h9
      rw [getX, if_neg h18, getR_bad l 0 x hx hx9] at h; cases h
    · have h9' : ∀ x ∈ l, x ≤ 9 := fun x hx => Nat.le_of_not_lt (fun hh => h9 ⟨x, hx, hh⟩)
      exact ⟨by omega, h9', by rw [getX_ok (by omega) h9']⟩
theorem getX_not {l : List Nat} (h : (getX l).1 ≠ 0) : (getX l).2 = 0 := by
  rw [getX] at h ⊢
  split
  · rfl
  · rename_i h18
    rw [if_neg h18] at h
    by_cases h9 : ∃ x ∈ l, 9 < x
    · obtain ⟨x, hx, hx9⟩ := h9
      rw [getR_bad l 0 x hx hx9]
    · rw [getR_ok l 0 (fun x hx => Nat.le_of_not_lt (fun hh => h9 ⟨x, hx, hh⟩))] at h
      exact (h rfl).elim
/-- What was put is got again. -/
theorem put_get {n w : Int} (h : putE n w = 0) : getX (putL n w) = (0, n.toNat) := by
  obtain ⟨N, W, rfl, rfl, hW, hN, h1⟩ := put_zero h
  rw [h1, getX_ok (by rw [dg_len]; exact hW) (dg_lt _ _), valD_dg, Nat.mod_eq_of_lt hN]; simp
/-- What was got is put again. -/
theorem get_put {l : List Nat} (h : (getX l).1 = 0) : putE ((getX l).2 : Nat) (l.length : Nat) = 0 ∧ putL ((getX l).2 : Nat) (l.length : Nat) = l := by
  obtain ⟨h1, h2, h3⟩ := getX_zero h
  have h4 := put_ok (n := valD l) (w := l.length) h1 (valD_lt _ l rfl h2)
  rw [h3]
  exact ⟨h4.1, by rw [h4.2, dg_valD _ l rfl h2]⟩

/-- Join: out is what the numbers before gave. -/
def joinR : List Int → List Int → List Nat → Int × List Nat
  | [], _, out => (0, out)
  | v :: vs, ws, out => if putE v (ws.headD 0) = 0 then joinR vs ws.tail (out ++ putL v (ws.headD 0)) else (putE v (ws.headD 0), [])
def joinX (vs ws : List Int) : Int × List Nat := if vs.length ≠ ws.length ∨ 20 < vs.length then (1, []) else joinR vs ws []
/-- The widths' sum, and whether all are. -/
def totR : List Int → Int → Int × Int
  | [], s => (s, 0)
  | w :: ws, s => if 0 ≤ w ∧ w ≤ 18 then totR ws (s + w) else (0, 1)
def totX (ws : List Int) : Int × Int := if 20 < ws.length then (0, 1) else totR ws 0
def cuts : List Nat → List Int → List (List Nat)
  | _, [] => []
  | l, w :: ws => l.take w.toNat :: cuts (l.drop w.toNat) ws
def getsR : List (List Nat) → List Int → Int × List Int
  | [], out => (0, out)
  | p :: ps, out => if (getX p).1 = 0 then getsR ps (out ++ [(((getX p).2 : Nat) : Int)]) else ((getX p).1, [])
def splitX (l : List Nat) (ws : List Int) : Int × List Int := if (totX ws).2 ≠ 0 then ((totX ws).2, []) else if (l.length : Int) ≠ (totX ws).1 then (14, []) else getsR (cuts l ws) []
theorem totR_ok : ∀ (ws : List Int) (s : Int), (totR ws s).2 = 0 → (∀ w ∈ ws, 0 ≤ w ∧ w ≤ 18) ∧ (totR ws s).1 = s + ws.sum
  | [], s, _ => ⟨by simp, by simp [totR]⟩
  | w :: ws, s, h => by
    rw [totR] at h ⊢
    split at h
    · rename_i hw
      rw [if_pos hw]
      obtain ⟨h1, h2⟩ := totR_ok ws (s + w) h
      refine ⟨fun x hx => ?_, by rw [h2, List.sum_cons]; omega⟩
      rw [List.mem_cons] at hx
      rcases hx with rfl | hx
      · exact hw
      · exact h1 x hx
    · cases h
theorem totR_all : ∀ (ws : List Int) (s : Int), (∀ w ∈ ws, 0 ≤ w ∧ w ≤ 18) → totR ws s = (s + ws.sum, 0)
  | [], s, _ => by simp [totR]
  | w :: ws, s, h => by
    rw [totR, if_pos (h w (by simp)), totR_all ws _ (fun x hx => h x (by simp [hx])), List.sum_cons]
    congr 1; omega
theorem totX_ok {ws : List Int} (h : (totX ws).2 = 0) : ws.length ≤ 20 ∧ (∀ w ∈ ws, 0 ≤ w ∧ w ≤ 18) ∧ (totX ws).1 = ws.sum := by
  rw [totX] at h ⊢
  split
  · rename_i h20; rw [if_pos h20] at h; cases h
  · rename_i h20
    rw [if_neg h20] at h
    obtain ⟨h1, h2⟩ := totR_ok ws 0 h
    exact ⟨by omega, h1, by rw [h2]; omega⟩
theorem sum_nat : ∀ (ws : List Int), (∀ w ∈ ws, 0 ≤ w ∧ w ≤ 18) → 0 ≤ ws.sum ∧ ws.sum ≤ 18 * ws.length
  | [], _ => by simp
  | w :: ws, h => by
    have := sum_nat ws (fun x hx => h x (by simp [hx]))
    have := h w (by simp)
    rw [List.sum_cons, List.length_cons]; omega
theorem joinR_zero : ∀ (vs ws : List Int) (out : List Nat), vs.length = ws.length → (joinR vs ws out).1 = 0 →
    (∀ w ∈ ws, 0 ≤ w ∧ w ≤ 18) ∧ ∃ t, (joinR vs ws out).2 = out ++ t ∧ (t.length : Int) = ws.sum ∧ ∀ o, getsR (cuts t ws) o = (0, o ++ vs)
  | [], ws, out, hl, _ => by
    obtain rfl := List.eq_nil_of_length_eq_zero hl.symm
    exact ⟨by simp, [], by simp [joinR], by simp, by simp [cuts, getsR]⟩
  | v :: vs, [], out, hl, _ => by simp at hl
  | v :: vs, w :: ws, out, hl, h => by
    rw [joinR, List.headD_cons, List.tail_cons] at h ⊢
    split at h
    · rename_i h0
      rw [if_pos h0]
      obtain ⟨h1, t, h2, h3, h4⟩ := joinR_zero vs ws _ (by simpa using hl) h
      have hlen := put_len h0
      obtain ⟨N, W, rfl, rfl, hW, hN, _⟩ := put_zero h0
      refine ⟨fun x hx => ?_, putL N W ++ t, by rw [h2, List.append_assoc], by rw [List.length_append, List.sum_cons]; omega, fun o => ?_⟩
      · rw [List.mem_cons] at hx
        rcases hx with rfl | hx
        · omega
        · exact h1 x hx
      · have hl2 : (putL N W).length = W := by omega
        have e1 : (putL N W ++ t).take (W : Int).toNat = putL N W := by rw [Int.toNat_natCast]; exact List.take_left' hl2
        have e2 : (putL N W ++ t).drop (W : Int).toNat = t := by rw [Int.toNat_natCast]; exact List.drop_left' hl2
        rw [cuts, e1, e2, getsR, put_get h0, if_pos rfl, h4]
        simp
    · rename_i h0; exact (h0 h).elim
/-- What was joined is split. -/
theorem join_split {vs ws : List Int} (h : (joinX vs ws).1 = 0) : splitX (joinX vs ws).2 ws = (0, vs) := by
  rw [joinX] at h ⊢
  split
  · rename_i h1; rw [if_pos h1] at h; cases h
  · rename_i h1
    rw [if_neg h1] at h
    have hl : vs.length = ws.length := by omega
    obtain ⟨h2, t, h3, h4, h5⟩ := joinR_zero vs ws [] hl h
    have ht : totX ws = (ws.sum, 0) := by rw [totX, if_neg (by omega), totR_all ws 0 h2]; congr 1; omega
    rw [splitX, ht, if_neg (by simp), h3, List.nil_append, if_neg (by simpa using h4), h5 []]; rfl
theorem getsR_zero : ∀ (ws : List Int) (l : List Nat) (o : List Int) (out : List Nat), (∀ w ∈ ws, 0 ≤ w ∧ w ≤ 18) → (l.length : Int) = ws.sum → (getsR (cuts l ws) o).1 = 0 →
    ∃ vs, (getsR (cuts l ws) o).2 = o ++ vs ∧ vs.length = ws.length ∧ joinR vs ws out = (0, out ++ l)
  | [], l, o, out, _, hl, _ => by
    have : l = [] := List.eq_nil_of_length_eq_zero (by simpa using hl)
    subst this
    exact ⟨[], by simp [cuts, getsR], rfl, by simp [joinR]⟩
  | w :: ws, l, o, out, hw, hl, h => by
    rw [cuts, getsR] at h ⊢
    split at h
    · rename_i h0
      rw [if_pos h0]
      have hw0 := hw w (by simp)
      have hs := sum_nat ws (fun x hx => hw x (by simp [hx]))
      rw [List.sum_cons] at hl
      have hlt : (l.take w.toNat).length = w.toNat := by rw [List.length_take]; omega
      obtain ⟨vs, h1, h2, h3⟩ := getsR_zero ws (l.drop w.toNat) _ (out ++ l.take w.toNat) (fun x hx => hw x (by simp [hx])) (by rw [List.length_drop]; omega) h
      obtain ⟨h4, h5⟩ := get_put h0
      have e : ((l.take w.toNat).length : Int) = w := by omega
      rw [e] at h4 h5
      refine ⟨((getX (l.take w.toNat)).2 : Nat) :: vs, by rw [h1, List.append_assoc]; rfl, by rw [List.length_cons, List.length_cons, h2], ?_⟩
      rw [joinR, List.headD_cons, List.tail_cons, if_pos h4, h5, h3, List.append_assoc, List.take_append_drop]
    · rename_i h0; exact (h0 h).elim
/-- What was split is joined. -/
theorem split_join {l : List Nat} {ws : List Int} (h : (splitX l ws).1 = 0) : joinX (splitX l ws).2 ws = (0, l) := by
  rw [splitX] at h ⊢
  split
  · rename_i h1; rw [if_pos h1] at h; exact (h1 h).elim
  · rename_i h1
    rw [if_neg h1] at h
    split
    · rename_i h2; rw [if_pos h2] at h; cases h
    · rename_i h2
      rw [if_neg h2] at h
      obtain ⟨h3, h4, h5⟩ := totX_ok (ws := ws) (by simpa using h1)
      obtain ⟨vs, h6, h7, h8⟩ := getsR_zero ws l [] [] h4 (by rw [← h5]; omega) h
      rw [h6, List.nil_append, joinX, if_neg (by omega), h8]; rfl
theorem getsR_not : ∀ (ps : List (List Nat)) (o : List Int), (getsR ps o).1 ≠ 0 → (getsR ps o).2 = []
  | [], o, h => (h rfl).elim
  | p :: ps, o, h => by
    rw [getsR] at h ⊢
    split
    · rename_i h0; rw [if_pos h0] at h; exact getsR_not ps _ h
    · rfl
theorem split_not {l : List Nat} {ws : List Int} (h : (splitX l ws).1 ≠ 0) : (splitX l ws).2 = [] := by
  rw [splitX] at h ⊢
  split
  · rfl
  · rename_i h1
    rw [if_neg h1] at h
    split
    · rfl
    · rename_i h2; rw [if_neg h2] at h; exact getsR_not _ _ h
theorem getsR_len : ∀ (ps : List (List Nat)) (o : List Int), (getsR ps o).2.length ≤ o.length + ps.length
  | [], o => by simp [getsR]
  | p :: ps, o => by
    rw [getsR]
    split
    · refine Nat.le_trans (getsR_len ps _) ?_; simp; omega
    · simp
theorem cuts_len : ∀ (ws : List Int) (l : List Nat), (cuts l ws).length = ws.length
  | [], l => by simp [cuts]
  | w :: ws, l => by rw [cuts, List.length_cons, cuts_len ws, List.length_cons]
theorem split_len (l : List Nat) (ws : List Int) : (splitX l ws).2.length ≤ 20 := by
  rw [splitX]
  split
  · simp
  · rename_i h1
    split
    · simp
    · have := (totX_ok (ws := ws) (by simpa using h1)).1
      have h2 := getsR_len (cuts l ws) []
      rw [cuts_len] at h2
      simp at h2; omega
theorem joinR_len : ∀ (vs ws : List Int) (o : List Nat), (joinR vs ws o).2.length ≤ o.length + 18 * vs.length ∧ ((∀ x ∈ o, x ≤ 9) → ∀ x ∈ (joinR vs ws o).2, x ≤ 9)
  | [], ws, o => by simp [joinR]
  | v :: vs, ws, o => by
    rw [joinR]
    split
    · obtain ⟨h1, h2⟩ := joinR_len vs ws.tail (o ++ putL v (ws.headD 0))
      have := put_le v (ws.headD 0)
      refine ⟨Nat.le_trans h1 (by rw [List.length_append, List.length_cons]; omega), fun ho => h2 (fun x hx => ?_)⟩
      rw [List.mem_append] at hx
      rcases hx with hx | hx
      · exact ho x hx
      · exact put_lt _ _ x hx
    · simp
theorem join_len (vs ws : List Int) : (joinX vs ws).2.length ≤ 360 ∧ ∀ x ∈ (joinX vs ws).2, x ≤ 9 := by
  rw [joinX]
  split
  · simp
  · rename_i h
    obtain ⟨h1, h2⟩ := joinR_len vs ws []
    exact ⟨Nat.le_trans h1 (by simp; omega), h2 (by simp)⟩
/-- The first digit that differs tells the order. -/
theorem dig_less {a b : List Nat} {n i x y : Nat} (ha : a.length = n) (hb : b.length = n) (h9a : ∀ x ∈ a, x ≤ 9) (h9b : ∀ x ∈ b, x ≤ 9) (ht : a.take i = b.take i) (hx : a[i]? = some x) (hy : b[i]? = some y) (hlt : x < y) : valD a < valD b := by
  have hi : i < n := by rw [← ha]; exact (List.getElem?_eq_some_iff.1 hx).1
  have ex := (List.getElem?_eq_some_iff.1 hx).2
  have ey := (List.getElem?_eq_some_iff.1 hy).2
  have ea : a = a.take i ++ (x :: a.drop (i + 1)) := by rw [← ex, List.getElem_cons_drop, List.take_append_drop]
  have eb : b = a.take i ++ (y :: b.drop (i + 1)) := by rw [ht, ← ey, List.getElem_cons_drop, List.take_append_drop]
  have la : (a.drop (i + 1)).length = n - (i + 1) := by rw [List.length_drop, ha]
  have lb : (b.drop (i + 1)).length = n - (i + 1) := by rw [List.length_drop, hb]
  have va := valD_lt _ _ la (fun z hz => h9a z (List.mem_of_mem_drop hz))
  have ca := valD_append [x] _ _ la
  have cb := valD_append [y] _ _ lb
  have fa := valD_append (a.take i) (n - i) (x :: a.drop (i + 1)) (by rw [List.length_cons, la]; omega)
  have fb := valD_append (a.take i) (n - i) (y :: b.drop (i + 1)) (by rw [List.length_cons, lb]; omega)
  rw [List.singleton_append] at ca cb
  have sx : valD [x] = x := by simp [valD]
  have sy : valD [y] = y := by simp [valD]
  rw [← ea, ca, sx] at fa
  rw [← eb, cb, sy] at fb
  have hm : (x + 1) * 10 ^ (n - (i + 1)) ≤ y * 10 ^ (n - (i + 1)) := Nat.mul_le_mul_right _ hlt
  rw [Nat.add_mul, Nat.one_mul] at hm
  omega
theorem order_at {m n : Int} {w : Int} {i x y : Nat} (hm : putE m w = 0) (hn : putE n w = 0) (ht : (putL m w).take i = (putL n w).take i) (hx : (putL m w)[i]? = some x) (hy : (putL n w)[i]? = some y) (hne : x ≠ y) : (x < y ↔ m < n) := by
  obtain ⟨M, W, rfl, rfl, hW, hM, h1⟩ := put_zero hm
  obtain ⟨N, W', rfl, e, hW', hN, h2⟩ := put_zero hn
  obtain rfl : W = W' := by omega
  rw [h1] at ht hx
  rw [h2] at ht hy
  have v1 : valD (dg M W) = M := by rw [valD_dg, Nat.mod_eq_of_lt hM]
  have v2 : valD (dg N W) = N := by rw [valD_dg, Nat.mod_eq_of_lt hN]
  constructor
  · intro h
    have := dig_less (dg_len M W) (dg_len N W) (dg_lt _ _) (dg_lt _ _) ht hx hy h
    omega
  · intro h
    rcases Nat.lt_or_ge x y with h' | h'
    · exact h'
    · have := dig_less (dg_len N W) (dg_len M W) (dg_lt _ _) (dg_lt _ _) ht.symm hy hx (by omega)
      omega
theorem order_same {m n w : Int} (hm : putE m w = 0) (hn : putE n w = 0) (h : putL m w = putL n w) : m = n := by
  have h1 := put_get hm
  have h2 := put_get hn
  rw [h, h2] at h1
  injection h1 with _ h3
  obtain ⟨M, W, rfl, _, _⟩ := put_zero hm
  obtain ⟨N, W', rfl, _, _⟩ := put_zero hn
  simp at h3
  omega
theorem pow18 {k : Nat} (h : k ≤ 18) : 10 ^ k ≤ 1000000000000000000 := by
  have := Nat.pow_le_pow_right (show 0 < 10 by omega) h
  simpa using this
theorem drop_at {α : Type} {l : List α} {k : Nat} (h : k < l.length) : l.drop k = l[k] :: l.drop (k + 1) := List.drop_eq_getElem_cons h
end Go.Proofs.Ytpeccmcojocgkaa
