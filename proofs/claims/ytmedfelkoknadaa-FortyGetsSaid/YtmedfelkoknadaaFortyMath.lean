/-
  Bytes as signs, plain.
-/
namespace Go.Proofs.Ytmedfelkoknadaa
set_option linter.unusedVariables false

/-- The signs, 0 to 44. -/
def signL : List Nat := [48, 49, 50, 51, 52, 53, 54, 55, 56, 57, 65, 66, 67, 68, 69, 70, 71, 72, 73, 74, 75, 76, 77, 78, 79, 80, 81, 82, 83, 84, 85, 86, 87, 88, 89, 90, 32, 36, 37, 42, 43, 45, 46, 47, 58]
def sg (n : Nat) : Nat := signL.getD n 0
def vlIn : List Nat → Nat → Nat
  | [], _ => 0
  | x :: l, c => if x = c then 0 else vlIn l c + 1
/-- The value of a sign; 45, if it is none. -/
def vl (c : Nat) : Nat := vlIn signL c
theorem sg_lt' : ∀ n, n < 46 → sg n < 256 := by decide
set_option maxRecDepth 100000 in
theorem vl_sg : ∀ n, n < 45 → vl (sg n) = n := by decide
theorem sg_big {n : Nat} (h : 45 ≤ n) : sg n = 0 := by unfold sg; rw [List.getD_eq_getElem?_getD, List.getElem?_eq_none h]; rfl
theorem sg_lt (n : Nat) : sg n < 256 := by
  rcases Nat.lt_or_ge n 46 with h | h
  · exact sg_lt' n h
  · rw [sg_big (by omega)]; omega
theorem vlIn_le : ∀ (l : List Nat) (c : Nat), vlIn l c ≤ l.length
  | [], _ => Nat.le_refl _
  | x :: l, c => by
    rw [vlIn, List.length_cons]
    have := vlIn_le l c
    split <;> omega
theorem vl_le (c : Nat) : vl c ≤ 45 := vlIn_le signL c
theorem vlIn_at : ∀ (l : List Nat) (c : Nat), vlIn l c < l.length → l[vlIn l c]? = some c
  | [], c, h => by simp [vlIn] at h
  | x :: l, c, h => by
    rw [vlIn] at h ⊢
    by_cases e : x = c
    · rw [if_pos e, e]; rfl
    · rw [if_neg e] at h ⊢
      rw [List.getElem?_cons_succ]
      exact vlIn_at l c (by rw [List.length_cons] at h; omega)
theorem vlIn_before : ∀ (l : List Nat) (c i : Nat), i < vlIn l c → l[i]? ≠ some c
  | [], c, i, h => by simp [vlIn] at h
  | x :: l, c, i, h => by
    rw [vlIn] at h
    by_cases e : x = c
    · rw [if_pos e] at h; omega
    · rw [if_neg e] at h
      cases i with
      | zero => simpa using e
      | succ i => rw [List.getElem?_cons_succ]; exact vlIn_before l c i (by omega)
theorem sg_vl {c : Nat} (h : vl c < 45) : sg (vl c) = c := by
  have := vlIn_at signL c h
  unfold sg vl
  rw [List.getD_eq_getElem?_getD, this]; rfl
/-- Is none of those before i, and the one at i. -/
theorem vl_found {c i : Nat} (hi : i < 45) (hb : i ≤ vl c) (h : sg i = c) : vl c = i := by
  rcases Nat.lt_or_ge i (vl c) with h1 | h1
  · exact absurd (by unfold sg at h; rw [List.getD_eq_getElem?_getD] at h; rw [List.getElem?_eq_getElem (show i < signL.length from hi)] at h ⊢; exact congrArg some h) (vlIn_before signL c i h1)
  · omega
theorem vl_next {c i : Nat} (hi : i < 45) (hb : i ≤ vl c) (h : sg i ≠ c) : i + 1 ≤ vl c := by
  rcases Nat.lt_or_ge i (vl c) with h1 | h1
  · omega
  · exact absurd (by have : vl c = i := by omega
                     rw [← this]; exact sg_vl (by omega)) h

def put3 (n : Nat) : List Nat := [sg (n % 45), sg (n / 45 % 45), sg (n / 2025)]
def put2 (n : Nat) : List Nat := [sg (n % 45), sg (n / 45)]
/-- The signs of a group of one or two bytes. -/
def putG : List Nat → List Nat
  | [a, b] => put3 (a * 256 + b)
  | [a] => put2 a
  | _ => []
/-- The signs of bytes. -/
def putF : List Nat → List Nat
  | a :: b :: r => put3 (a * 256 + b) ++ putF r
  | [a] => put2 a
  | [] => []
theorem put3_len (n : Nat) : (put3 n).length = 3 := rfl
theorem put2_len (n : Nat) : (put2 n).length = 2 := rfl
theorem put3_lt (n : Nat) : ∀ x ∈ put3 n, x < 256 := by
  intro x hx
  simp only [put3, List.mem_cons, List.not_mem_nil, or_false] at hx
  rcases hx with rfl | rfl | rfl <;> exact sg_lt _
theorem put2_lt (n : Nat) : ∀ x ∈ put2 n, x < 256 := by
  intro x hx
  simp only [put2, List.mem_cons, List.not_mem_nil, or_false] at hx
  rcases hx with rfl | rfl <;> exact sg_lt _
theorem putF_lt : ∀ (l : List Nat), ∀ x ∈ putF l, x < 256
  | [], x, hx => by simp [putF] at hx
  | [a], x, hx => put2_lt a x hx
  | a :: b :: r, x, hx => by
    rw [putF, List.mem_append] at hx
    exact hx.elim (put3_lt _ x) (putF_lt r x)
theorem putF_len : ∀ (l : List Nat), (putF l).length = l.length / 2 * 3 + l.length % 2 * 2
  | [] => rfl
  | [a] => by simp [putF, put2]
  | a :: b :: r => by
    rw [putF, List.length_append, put3_len, putF_len r, List.length_cons, List.length_cons]
    omega
theorem putF_append : ∀ (a b : List Nat), a.length % 2 = 0 → putF (a ++ b) = putF a ++ putF b
  | [], b, _ => rfl
  | [x], b, h => by simp at h
  | x :: y :: r, b, h => by
    rw [List.cons_append, List.cons_append, putF, putF, List.append_assoc, putF_append r b (by simp only [List.length_cons] at h; omega)]
theorem putG_eq {l : List Nat} (h1 : 1 ≤ l.length) (h2 : l.length ≤ 2) : putG l = putF l := by
  match l, h1, h2 with
  | [a], _, _ => rfl
  | [a, b], _, _ => simp [putG, putF]
/-- The bytes of signs, with the document's error; of one sign more than a multiple of three it says what does not matter. -/
def okS (c : Nat) : Bool := decide (vl c < 45)
def val2 (x y : Nat) : Nat := vl x + 45 * vl y
def val3 (x y z : Nat) : Nat := vl x + 45 * vl y + 2025 * vl z
/-- What a group of signs is: its error, and its bytes. -/
def getG : List Nat → Nat × List Nat
  | [x, y] => if (okS x && okS y) = false then (7, []) else if 255 < val2 x y then (23, []) else (0, [val2 x y])
  | [x, y, z] => if (okS x && okS y && okS z) = false then (7, []) else if 65535 < val3 x y z then (23, []) else (0, [val3 x y z / 256, val3 x y z % 256])
  | _ => (0, [])
def thenG (p q : Nat × List Nat) : Nat × List Nat := if p.1 ≠ 0 then (p.1, []) else if q.1 ≠ 0 then (q.1, []) else (0, p.2 ++ q.2)
def getR : List Nat → Nat × List Nat
  | x :: y :: z :: r => thenG (getG [x, y, z]) (getR r)
  | [x, y] => getG [x, y]
  | [_] => (0, [])
  | [] => (0, [])
def getX (l : List Nat) : Nat × List Nat := if l.length % 3 = 1 then (14, []) else getR l
theorem thenG_nil (p : Nat × List Nat) (h : p.1 ≠ 0 → p.2 = []) : thenG p (0, []) = p := by
  unfold thenG
  obtain ⟨e, l⟩ := p
  by_cases h0 : e ≠ 0
  · rw [if_pos h0]; simp only at h h0 ⊢; rw [h h0]
  · rw [if_neg h0, if_neg (by simp)]; simp only [List.append_nil] at h0 ⊢; rw [show e = 0 by omega]
theorem thenG_bad {p : Nat × List Nat} (h : p.1 ≠ 0) (q : Nat × List Nat) : thenG p q = (p.1, []) := by unfold thenG; rw [if_pos h]
theorem thenG_assoc (p q r : Nat × List Nat) : thenG (thenG p q) r = thenG p (thenG q r) := by
  obtain ⟨e, l⟩ := p
  obtain ⟨f, m⟩ := q
  obtain ⟨g, k⟩ := r
  unfold thenG
  by_cases h0 : e ≠ 0
  · simp [h0]
  · by_cases h1 : f ≠ 0
    · simp [h0, h1]
    · by_cases h2 : g ≠ 0
      · simp [h0, h1, h2]
      · simp [h0, h1, h2]
theorem getR_append : ∀ (a b : List Nat), a.length % 3 = 0 → getR (a ++ b) = thenG (getR a) (getR b)
  | [], b, _ => by
    rw [List.nil_append, show getR [] = (0, []) from rfl]
    unfold thenG
    obtain ⟨e, l⟩ : ∃ e, e = getR b := ⟨_, rfl⟩
    rw [← l]
    by_cases h : e.1 ≠ 0
    · rw [if_neg (by simp), if_pos h]
      rw [l] at h ⊢
      exact getR_nil b h
    · rw [if_neg (by simp), if_neg h]
      simp only [List.nil_append]
      exact Prod.ext (by show e.1 = 0; omega) rfl
  | [x], b, h => by simp at h
  | [x, y], b, h => by simp at h
  | x :: y :: z :: r, b, h => by
    rw [List.cons_append, List.cons_append, List.cons_append, getR, getR, getR_append r b (by simp only [List.length_cons] at h; omega), thenG_assoc]
where getR_nil : ∀ (l : List Nat), (getR l).1 ≠ 0 → getR l = ((getR l).1, [])
  | [], h => rfl
  | [x], h => rfl
  | [x, y], h => by
    rw [getR, getG] at h ⊢
    split at h
    · rename_i e; rw [if_pos e]
    · rename_i e
      rw [if_neg e] 
      split at h
      · rename_i e2; rw [if_pos e2]
      · simp at h
  | x :: y :: z :: r, h => by
    rw [getR] at h ⊢
    unfold thenG at h ⊢
    split at h
    · rename_i e; rw [if_pos e]
    · rename_i e
      rw [if_neg e]
      split at h
      · rename_i e2; rw [if_pos e2]
      · simp at h
theorem okS_sg {n : Nat} (h : n < 45) : okS (sg n) = true := by unfold okS; rw [vl_sg n h]; simpa using h
theorem getG_put3 {a b : Nat} (ha : a < 256) (hb : b < 256) : getG (put3 (a * 256 + b)) = (0, [a, b]) := by
  obtain ⟨n, hn⟩ : ∃ n, n = a * 256 + b := ⟨_, rfl⟩
  have h1 : n < 65536 := by omega
  have e : val3 (sg (n % 45)) (sg (n / 45 % 45)) (sg (n / 2025)) = n := by
    unfold val3
    rw [vl_sg _ (by omega), vl_sg _ (by omega), vl_sg _ (by omega)]
    omega
  rw [← hn, put3, getG, okS_sg (by omega), okS_sg (by omega), okS_sg (by omega), e, if_neg (by simp), if_neg (by omega)]
  have e1 : n / 256 = a := by omega
  have e2 : n % 256 = b := by omega
  rw [e1, e2]
theorem getG_put2 {a : Nat} (ha : a < 256) : getG (put2 a) = (0, [a]) := by
  have e : val2 (sg (a % 45)) (sg (a / 45)) = a := by
    unfold val2
    rw [vl_sg _ (by omega), vl_sg _ (by omega)]
    omega
  rw [put2, getG, okS_sg (by omega), okS_sg (by omega), e, if_neg (by simp), if_neg (by omega)]
theorem getR_putF : ∀ (l : List Nat), (∀ x ∈ l, x < 256) → getR (putF l) = (0, l)
  | [], _ => rfl
  | [a], h => getG_put2 (h a (by simp))
  | a :: b :: r, h => by
    rw [putF, getR_append _ _ (by rw [put3_len]), getR_putF r (fun x hx => h x (by simp [hx]))]
    have : getR (put3 (a * 256 + b)) = (0, [a, b]) := by
      rw [put3, getR, show getR [] = (0, []) from rfl]
      have := getG_put3 (h a (by simp)) (h b (by simp))
      rw [put3] at this
      rw [this]; rfl
    rw [this]
    rfl
theorem getX_putF {l : List Nat} (h : ∀ x ∈ l, x < 256) : getX (putF l) = (0, l) := by
  unfold getX
  rw [if_neg (by rw [putF_len]; omega), getR_putF l h]
theorem putF_inj {a b : List Nat} (ha : ∀ x ∈ a, x < 256) (hb : ∀ x ∈ b, x < 256) (h : putF a = putF b) : a = b := by
  have h1 := getX_putF ha
  rw [h, getX_putF hb] at h1
  exact (Prod.mk.inj h1).2.symm
theorem okS_lt {c : Nat} (h : okS c = true) : vl c < 45 := of_decide_eq_true h
theorem putF_getG3 {x y z : Nat} {d : List Nat} (h : getG [x, y, z] = (0, d)) : ∃ a b, d = [a, b] ∧ put3 (a * 256 + b) = [x, y, z] ∧ a < 256 ∧ b < 256 := by
  rw [getG] at h
  split at h
  · cases h
  · rename_i h1
    split at h
    · cases h
    · rename_i h2
      have h3 : (okS x && okS y && okS z) = true := by cases hh : (okS x && okS y && okS z) with | true => rfl | false => exact absurd hh h1
      rw [Bool.and_eq_true, Bool.and_eq_true] at h3
      obtain ⟨⟨k1, k2⟩, k3⟩ := h3
      have v1 := okS_lt k1
      have v2 := okS_lt k2
      have v3 := okS_lt k3
      have hd : [val3 x y z / 256, val3 x y z % 256] = d := (Prod.mk.inj h).2
      refine ⟨_, _, hd.symm, ?_, by omega, by omega⟩
      have e : val3 x y z / 256 * 256 + val3 x y z % 256 = val3 x y z := by omega
      rw [e, put3]
      unfold val3
      have e1 : (vl x + 45 * vl y + 2025 * vl z) % 45 = vl x := by omega
      have e2 : (vl x + 45 * vl y + 2025 * vl z) / 45 % 45 = vl y := by omega
      have e3 : (vl x + 45 * vl y + 2025 * vl z) / 2025 = vl z := by omega
      rw [e1, e2, e3, sg_vl v1, sg_vl v2, sg_vl v3]
theorem putF_getG2 {x y : Nat} {d : List Nat} (h : getG [x, y] = (0, d)) : ∃ a, d = [a] ∧ put2 a = [x, y] ∧ a < 256 := by
  rw [getG] at h
  split at h
  · cases h
  · rename_i h1
    split at h
    · cases h
    · rename_i h2
      have h3 : (okS x && okS y) = true := by simpa using h1
      rw [Bool.and_eq_true] at h3
      obtain ⟨k1, k2⟩ := h3
      have v1 := okS_lt k1
      have v2 := okS_lt k2
      have hd : [val2 x y] = d := (Prod.mk.inj h).2
      refine ⟨_, hd.symm, ?_, by omega⟩
      rw [put2]
      unfold val2
      have e1 : (vl x + 45 * vl y) % 45 = vl x := by omega
      have e2 : (vl x + 45 * vl y) / 45 = vl y := by omega
      rw [e1, e2, sg_vl v1, sg_vl v2]
theorem thenG_zero {p q : Nat × List Nat} {d : List Nat} (h : thenG p q = (0, d)) : p.1 = 0 ∧ q.1 = 0 ∧ d = p.2 ++ q.2 := by
  unfold thenG at h
  split at h
  · rename_i h1; exact absurd (Prod.mk.inj h).1 h1
  · split at h
    · rename_i h1; exact absurd (Prod.mk.inj h).1 h1
    · exact ⟨by omega, by omega, (Prod.mk.inj h).2.symm⟩
theorem putF_getR : ∀ (l d : List Nat), l.length % 3 ≠ 1 → getR l = (0, d) → putF d = l ∧ ∀ x ∈ d, x < 256
  | [], d, _, h => by
    rw [show d = [] from (Prod.mk.inj h).2.symm]
    exact ⟨rfl, by simp⟩
  | [x], d, h1, _ => by simp at h1
  | [x, y], d, _, h => by
    obtain ⟨a, rfl, h2, h3⟩ := putF_getG2 h
    exact ⟨h2, by simpa using h3⟩
  | x :: y :: z :: r, d, h1, h => by
    rw [getR] at h
    obtain ⟨h2, h3, rfl⟩ := thenG_zero h
    obtain ⟨a, b, hd, hp, ha, hb⟩ := putF_getG3 (x := x) (y := y) (z := z) (d := (getG [x, y, z]).2) (Prod.ext h2 rfl)
    obtain ⟨k1, k2⟩ := putF_getR r (getR r).2 (by simp only [List.length_cons] at h1; omega) (Prod.ext h3 rfl)
    rw [hd]
    refine ⟨?_, ?_⟩
    · rw [List.cons_append, List.cons_append, List.nil_append, putF, hp, k1]; rfl
    · intro u hu
      simp only [List.cons_append, List.nil_append, List.mem_cons] at hu
      rcases hu with rfl | rfl | hu
      · exact ha
      · exact hb
      · exact k2 u hu
theorem putF_getX {l d : List Nat} (h : getX l = (0, d)) : putF d = l ∧ ∀ x ∈ d, x < 256 := by
  unfold getX at h
  split at h
  · cases h
  · rename_i h1; exact putF_getR l d h1 h
theorem getX_bad {l d : List Nat} {e : Nat} (h : getX l = (e, d)) (he : e ≠ 0) : d = [] := by
  unfold getX at h
  split at h
  · exact (Prod.mk.inj h).2.symm
  · have h2 : (getR l).1 ≠ 0 := by rw [h]; exact he
    rw [getR_append.getR_nil l h2] at h
    exact (Prod.mk.inj h).2.symm
theorem getX_len {l d : List Nat} {e : Nat} (h : getX l = (e, d)) : d.length ≤ l.length := by
  by_cases he : e = 0
  · subst he
    have := putF_len d
    rw [(putF_getX h).1] at this
    omega
  · rw [getX_bad h he]; simp
theorem getX_lt {l d : List Nat} {e : Nat} (h : getX l = (e, d)) : ∀ x ∈ d, x < 256 := by
  by_cases he : e = 0
  · subst he; exact (putF_getX h).2
  · rw [getX_bad h he]; simp
end Go.Proofs.Ytmedfelkoknadaa
