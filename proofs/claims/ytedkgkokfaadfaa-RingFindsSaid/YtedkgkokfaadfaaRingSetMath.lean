/-
  Plain facts on rings: a ring with keys more, found in whatever order. No program here.
-/
import Derived.Test.YtedkgkokfaadfaaRingAddMath
import Derived.Test.YtedkgkokfaadfaaRingOn
namespace Go.Proofs.Ytedkgkokfaadfaa

def Lt (a b : K) : Prop := a.id < b.id
theorem isR_iff (l : List K) : isR l = true ↔ (∀ x ∈ l, x.right = true) ∧ l.Pairwise Lt := by
  constructor
  · intro h
    have hg := isR_true.1 h
    have hd : ∀ i (hi : i < l.length), l.getD i K0 = l[i] := fun i hi => by rw [List.getD_eq_getElem?_getD, List.getElem?_eq_getElem hi]; rfl
    constructor
    · intro x hx
      obtain ⟨i, hi, rfl⟩ := List.getElem_of_mem hx
      have := hg i hi
      simp only [goodAt, Bool.and_eq_true] at this
      rw [← hd i hi]; exact this.1
    · rw [List.pairwise_iff_getElem]
      intro i j hi hj hij
      induction j with
      | zero => omega
      | succ j ih =>
        have := hg (j + 1) hj
        simp only [goodAt, Bool.and_eq_true, Bool.or_eq_true, decide_eq_true_eq, beq_iff_eq, Nat.add_sub_cancel] at this
        have h2 : (l.getD j K0).id < (l.getD (j + 1) K0).id := by
          rcases this.2 with h | h
          · omega
          · exact h
        rw [hd j (by omega), hd (j + 1) hj] at h2
        rcases Nat.lt_or_ge i j with h | h
        · have := ih (by omega) h
          unfold Lt at *
          omega
        · have e : i = j := by omega
          subst e
          exact h2
  · rintro ⟨h1, h2⟩
    rw [isR_true]
    intro i hi
    have hd : ∀ i (hi : i < l.length), l.getD i K0 = l[i] := fun i hi => by rw [List.getD_eq_getElem?_getD, List.getElem?_eq_getElem hi]; rfl
    rw [List.pairwise_iff_getElem] at h2
    rw [goodAt, hd i hi, h1 _ (List.getElem_mem hi), Bool.true_and]
    rcases Nat.eq_zero_or_pos i with h | h
    · subst h; rfl
    · have := h2 (i - 1) i (by omega) hi (by omega)
      rw [hd (i - 1) (by omega)]
      unfold Lt at this
      simp [this]
/-- A key put in its place. -/
def ins (k : K) : List K → List K
  | [] => [k]
  | x :: l => if x.id < k.id then x :: ins k l else k :: x :: l
theorem ins_place (k : K) (l : List K) : l.take (placeN l k.id) ++ k :: l.drop (placeN l k.id) = ins k l := by
  induction l with
  | nil => rfl
  | cons x l ih =>
    unfold placeN at *
    by_cases h : x.id < k.id
    · rw [List.takeWhile_cons_of_pos (by simpa using h), ins, if_pos h, ← ih]
      rfl
    · rw [List.takeWhile_cons_of_neg (by simpa using h), ins, if_neg h]
      rfl
theorem mem_ins (k : K) (l : List K) (x : K) : x ∈ ins k l ↔ x = k ∨ x ∈ l := by
  induction l with
  | nil => simp [ins]
  | cons y l ih =>
    unfold ins
    split
    · rw [List.mem_cons, ih, List.mem_cons]
      constructor
      · rintro (h | h | h) <;> simp [h]
      · rintro (h | h | h) <;> simp [h]
    · simp
theorem length_ins (k : K) (l : List K) : (ins k l).length = l.length + 1 := by
  induction l with
  | nil => rfl
  | cons y l ih =>
    unfold ins
    split
    · simp [ih]
    · simp
theorem pw_ins (k : K) (l : List K) (h : l.Pairwise Lt) (hne : ∀ x ∈ l, x.id ≠ k.id) : (ins k l).Pairwise Lt := by
  induction l with
  | nil => simp [ins]
  | cons y l ih =>
    rw [List.pairwise_cons] at h
    unfold ins
    split
    · next hy =>
      rw [List.pairwise_cons]
      refine ⟨?_, ih h.2 (fun x hx => hne x (by simp [hx]))⟩
      intro x hx
      rcases (mem_ins k l x).1 hx with h' | h'
      · rw [h']; exact hy
      · exact h.1 x h'
    · next hy =>
      have hlt : k.id < y.id := by have := hne y (by simp); omega
      rw [List.pairwise_cons]
      refine ⟨?_, by rw [List.pairwise_cons]; exact h⟩
      intro x hx
      rcases List.mem_cons.1 hx with h' | h'
      · rw [h']; exact hlt
      · have := h.1 x h'
        unfold Lt at *
        omega
theorem ins_comm (a b : K) (hab : a.id ≠ b.id) (l : List K) : ins b (ins a l) = ins a (ins b l) := by
  induction l with
  | nil =>
    simp only [ins]
    by_cases h : a.id < b.id
    · rw [if_pos h, if_neg (by omega)]
    · rw [if_neg h, if_pos (by omega)]
  | cons x l ih =>
    by_cases h1 : x.id < a.id
    · by_cases h2 : x.id < b.id
      · simp only [ins, if_pos h1, if_pos h2, ih]
      · have h3 : b.id < a.id := by omega
        simp only [ins, if_pos h1, if_neg h2, if_pos h3]
    · by_cases h2 : x.id < b.id
      · have h3 : a.id < b.id := by omega
        simp only [ins, if_neg h1, if_pos h2, if_pos h3]
      · by_cases h3 : a.id < b.id
        · have h4 : ¬ b.id < a.id := by omega
          simp only [ins, if_neg h1, if_neg h2, if_pos h3, if_neg h4]
        · have h4 : b.id < a.id := by omega
          simp only [ins, if_neg h1, if_neg h2, if_neg h3, if_pos h4]
theorem find_ins_same (k : K) (l : List K) (hne : ∀ x ∈ l, x.id ≠ k.id) : (ins k l).find? (fun q => q.id == k.id) = some k := by
  induction l with
  | nil => simp [ins]
  | cons y l ih =>
    unfold ins
    split
    · rw [List.find?_cons_of_neg (by simpa using hne y (by simp))]
      exact ih (fun x hx => hne x (by simp [hx]))
    · rw [List.find?_cons_of_pos (by simp)]
theorem find_ins_other (k : K) (l : List K) (id : Int) (h : k.id ≠ id) : (ins k l).find? (fun q => q.id == id) = l.find? (fun q => q.id == id) := by
  induction l with
  | nil => simp [ins, h]
  | cons y l ih =>
    unfold ins
    split
    · by_cases hy : y.id = id
      · rw [List.find?_cons_of_pos (by simpa using hy), List.find?_cons_of_pos (by simpa using hy)]
      · rw [List.find?_cons_of_neg (by simpa using hy), List.find?_cons_of_neg (by simpa using hy), ih]
    · rw [List.find?_cons_of_neg (by simpa using h)]
theorem any_ins (k : K) (l : List K) (id : Int) : (ins k l).any (fun q => q.id == id) = (l.any (fun q => q.id == id) || k.id == id) := by
  induction l with
  | nil => simp [ins]
  | cons y l ih =>
    unfold ins
    split
    · rw [List.any_cons, ih, List.any_cons, Bool.or_assoc]
    · rw [List.any_cons, Bool.or_comm]
/-- What it is that a key was added. -/
theorem add_zero {l : List K} {k : K} (h : 0 = addE l k) : isR l = true ∧ k.right = true ∧ l.any (fun q => q.id == k.id) = false ∧ addK l k = ins k l ∧ isR (ins k l) = true := by
  unfold addE at h
  split at h
  · next h1 =>
    split at h
    · exact absurd h (by decide)
    · next h2 =>
      have h3 : isR l = true ∧ k.right = true := by simpa using h1
      have h4 : l.any (fun q => q.id == k.id) = false := by simpa using h2
      have hne : ∀ x ∈ l, x.id ≠ k.id := by
        intro x hx e
        rw [List.any_eq_false] at h4
        have := h4 x hx
        simp [e] at this
      refine ⟨h3.1, h3.2, h4, ?_, ?_⟩
      · rw [addK, if_pos h1, h4, ← ins_place]; rfl
      · have := (isR_iff l).1 h3.1
        rw [isR_iff]
        refine ⟨?_, pw_ins k l this.2 hne⟩
        intro x hx
        rcases (mem_ins k l x).1 hx with h' | h'
        · rw [h']; exact h3.2
        · exact this.1 x h'
  · exact absurd h (by decide)
theorem any_ne {l : List K} {k : K} (h : l.any (fun q => q.id == k.id) = false) : ∀ x ∈ l, x.id ≠ k.id := by
  intro x hx e
  rw [List.any_eq_false] at h
  have := h x hx
  simp [e] at this

theorem add_twice {l : List K} {a b : K} (ha : 0 = addE l a) (hb : 0 = addE l b) : addE (ins a l) b = (if a.id = b.id then 10 else 0) ∧ addK (ins a l) b = (if a.id = b.id then [] else ins b (ins a l)) := by
  obtain ⟨h1, h2, h3, h4, h5⟩ := add_zero ha
  obtain ⟨g1, g2, g3, g4, g5⟩ := add_zero hb
  have hany : (ins a l).any (fun q => q.id == b.id) = (a.id == b.id) := by rw [any_ins, g3, Bool.false_or]
  by_cases h : a.id = b.id
  · have e : (a.id == b.id) = true := by simpa using h
    rw [e] at hany
    constructor
    · rw [addE, h5, g2, hany, if_pos h]; rfl
    · rw [addK, h5, g2, hany, if_pos h]; rfl
  · have e : (a.id == b.id) = false := by simpa using h
    rw [e] at hany
    constructor
    · rw [addE, h5, g2, hany, if_neg h]; rfl
    · rw [addK, h5, g2, hany, if_neg h, ← ins_place b (ins a l)]; rfl
/-- Two keys, in whatever order. -/
theorem order_facts {l : List K} {a b : K} (ha : 0 = addE l a) (hb : 0 = addE l b) :
    addK (addK l a) b = addK (addK l b) a ∧ addE (addK l a) b = addE (addK l b) a ∧ (addE (addK l a) b == 0) = (a.id != b.id) ∧ (addK (addK l a) b).length ≤ 9223372036854775807 := by
  obtain ⟨h1, h2, h3, h4, h5⟩ := add_zero ha
  obtain ⟨g1, g2, g3, g4, g5⟩ := add_zero hb
  obtain ⟨x1, x2⟩ := add_twice ha hb
  obtain ⟨y1, y2⟩ := add_twice hb ha
  have hlen := ring_len h1
  rw [h4, g4, x1, x2, y1, y2]
  by_cases h : a.id = b.id
  · have h' : b.id = a.id := h.symm
    simp [h]
  · have h' : ¬ b.id = a.id := fun e => h e.symm
    rw [if_neg h, if_neg h', if_neg h, if_neg h']
    refine ⟨ins_comm a b h l, rfl, ?_, ?_⟩
    · simp [h]
    · rw [length_ins, length_ins]; omega
/-- What was added is found, and all else as before. -/
theorem keeps_facts {l : List K} {k : K} (h : 0 = addE l k) : isR (addK l k) = true ∧ (addK l k).length = l.length + 1 ∧ l.length ≤ 100 ∧
    (k = findK (addK l k) k.id ∧ 0 = findE (addK l k) k.id ∧ K0 = findK l k.id ∧ 10 = findE l k.id) ∧ ∀ id, id ≠ k.id → findK (addK l k) id = findK l id ∧ findE (addK l k) id = findE l id := by
  obtain ⟨h1, h2, h3, h4, h5⟩ := add_zero h
  have hne := any_ne h3
  have hn : l.find? (fun q => q.id == k.id) = none := by
    rw [List.find?_eq_none]
    intro x hx
    simpa using hne x hx
  rw [h4]
  refine ⟨h5, length_ins k l, ring_len h1, ⟨?_, ?_, ?_, ?_⟩, ?_⟩
  · rw [findK, h5, find_ins_same k l hne]; rfl
  · rw [findE, h5, find_ins_same k l hne]; rfl
  · rw [findK, h1, hn]; rfl
  · rw [findE, h1, hn]; rfl
  · intro id hid
    rw [findK, findK, findE, findE, h5, h1, find_ins_other k l id (fun e => hid e.symm)]
    exact ⟨rfl, rfl⟩
/-- The key of a day. -/
theorem days_facts {l : List K} {day : Int} (h : 0 = onE l day) : onK l day = findK l (onK l day).id ∧ 0 = findE l (onK l day).id ∧ (onK l day).frm ≤ day ∧ day ≤ (onK l day).til ∧
    ∀ i, i < l.length → (l.getD i K0).frm ≤ day → day ≤ (l.getD i K0).til → (l.getD i K0).id ≤ (onK l day).id := by
  unfold onE at h
  split at h
  · next h1 =>
    split at h
    · next h2 =>
      obtain ⟨r, hr⟩ := Option.isSome_iff_exists.1 h2
      have hk : onK l day = r := by rw [onK, if_pos h1, hr]; rfl
      obtain ⟨hp, us, bs, hl, has⟩ := List.find?_eq_some_iff_append.1 hr
      have hl2 : l = bs.reverse ++ r :: us.reverse := by
        have := congrArg List.reverse hl
        simpa using this
      have hpw := ((isR_iff l).1 h1).2
      rw [hl2] at hpw
      rw [List.pairwise_append] at hpw
      obtain ⟨_, hr2, hcross⟩ := hpw
      rw [List.pairwise_cons] at hr2
      simp only [usedOn, Bool.and_eq_true, decide_eq_true_eq] at hp
      have hfind : l.find? (fun q => q.id == r.id) = some r := by
        rw [List.find?_eq_some_iff_append]
        refine ⟨by simp, bs.reverse, us.reverse, hl2, ?_⟩
        intro x hx
        have := hcross x hx r (by simp)
        unfold Lt at this
        simp; omega
      rw [hk]
      refine ⟨?_, ?_, hp.1, hp.2, ?_⟩
      · rw [findK, if_pos h1, hfind]; rfl
      · rw [findE, if_pos h1, hfind]; rfl
      · intro i hi hu1 hu2
        have hm : l.getD i K0 ∈ l := by
          rw [List.getD_eq_getElem?_getD, List.getElem?_eq_getElem hi]; exact List.getElem_mem hi
        generalize l.getD i K0 = x at *
        rw [hl2] at hm
        rcases List.mem_append.1 hm with h | h
        · have := hcross x h r (by simp)
          unfold Lt at this
          omega
        · rcases List.mem_cons.1 h with h | h
          · rw [h]; exact Int.le_refl _
          · have := has x (by simpa using h)
            simp [usedOn, hu1, hu2] at this
    · exact absurd h (by decide)
  · exact absurd h (by decide)
end Go.Proofs.Ytedkgkokfaadfaa
