/-
  Plain facts on adding a key to a ring. No program here.
-/
import Derived.Test.YtedkgkokfaadfaaRingOwn
import Derived.Test.YtedkgkokfaadfaaRingIs
namespace Go.Proofs.Ytedkgkokfaadfaa

def placeN (l : List K) (id : Int) : Nat := (l.takeWhile fun q => decide (q.id < id)).length
/-- What Add answers. -/
def addK (l : List K) (k : K) : List K := if (isR l && k.right) = true then (if l.any (fun q => q.id == k.id) = true then [] else l.take (placeN l k.id) ++ k :: l.drop (placeN l k.id)) else []
def addE (l : List K) (k : K) : Int := if (isR l && k.right) = true then (if l.any (fun q => q.id == k.id) = true then 10 else 0) else 1

theorem place_at {l : List K} {id : Int} (j : Nat) (hj : j ≤ l.length) (h : ∀ t, t < j → (l.getD t K0).id < id) (h2 : j < l.length → ¬ ((l.getD j K0).id < id)) : placeN l id = j := by
  induction l generalizing j with
  | nil => simp at hj; subst hj; rfl
  | cons x l ih =>
    unfold placeN at *
    cases j with
    | zero =>
      have := h2 (by simp)
      simp at this
      rw [List.takeWhile_cons_of_neg (by simp; exact this)]; rfl
    | succ j =>
      have h0 := h 0 (by omega)
      simp at h0
      rw [List.takeWhile_cons_of_pos (by simpa using h0), List.length_cons, ih j (by simpa using hj) (fun t ht => by have := h (t + 1) (by omega); simpa using this) (fun hl => by have := h2 (by simpa using hl); simpa using this)]
/-- Where a ring with a key more has come to. -/
def AddSt (l : List K) (Lv : List KV) (kv : KV) (i : Nat) (put : Bool) (M : List KV) : Prop :=
  (put = false ∧ M = Lv.take i ∧ ∀ t, t < i → (l.getD t K0).id < kv.k.id) ∨
  (put = true ∧ (∀ t, t < i → (l.getD t K0).id ≠ kv.k.id) ∧ ∃ j, j < i ∧ M = Lv.take j ++ kv :: (Lv.drop j).take (i - j) ∧ (∀ t, t < j → (l.getD t K0).id < kv.k.id) ∧ kv.k.id < (l.getD j K0).id)
theorem addSt_zero (l : List K) (Lv : List KV) (kv : KV) : AddSt l Lv kv 0 false [] := .inl ⟨rfl, by simp, by omega⟩
theorem drop_take_snoc (Lv : List KV) (i j : Nat) (q : KV) (hq : Lv[i]? = some q) (hj : j ≤ i) : (Lv.drop j).take (i + 1 - j) = (Lv.drop j).take (i - j) ++ [q] := by
  have hi : i < Lv.length := (List.getElem?_eq_some_iff.1 hq).1
  have e : (Lv.drop j)[i - j]? = some q := by rw [List.getElem?_drop, show j + (i - j) = i by omega]; exact hq
  have hl : i - j < (Lv.drop j).length := by simp; omega
  rw [show i + 1 - j = (i - j) + 1 by omega, List.take_succ_eq_append_getElem hl]
  rw [List.getElem?_eq_getElem hl] at e
  rw [Option.some.inj e]
theorem addSt_low {l : List K} {Lv : List KV} {kv : KV} {i : Nat} {M : List KV} (q : KV) (hq : Lv[i]? = some q) (h : AddSt l Lv kv i false M) (hid : (l.getD i K0).id < kv.k.id) : AddSt l Lv kv (i + 1) false (M ++ [q]) := by
  rcases h with ⟨_, h2, h3⟩ | ⟨h, _⟩
  · refine .inl ⟨rfl, ?_, ?_⟩
    · have hi : i < Lv.length := (List.getElem?_eq_some_iff.1 hq).1
      rw [List.getElem?_eq_getElem hi] at hq
      rw [h2, List.take_succ_eq_append_getElem hi, Option.some.inj hq]
    · intro t ht
      rcases Nat.lt_or_ge t i with h | h
      · exact h3 t h
      · have e : t = i := by omega
        subst e; exact hid
  · cases h
theorem addSt_put {l : List K} {Lv : List KV} {kv : KV} {i : Nat} {M : List KV} (q : KV) (hq : Lv[i]? = some q) (h : AddSt l Lv kv i true M) (hid : (l.getD i K0).id ≠ kv.k.id) : AddSt l Lv kv (i + 1) true (M ++ [q]) := by
  rcases h with ⟨h, _⟩ | ⟨_, h2, j, hj, h3, h4, h5⟩
  · cases h
  · refine .inr ⟨rfl, ?_, j, by omega, ?_, h4, h5⟩
    · intro t ht
      rcases Nat.lt_or_ge t i with h | h
      · exact h2 t h
      · have e : t = i := by omega
        subst e; exact hid
    · rw [drop_take_snoc Lv i j q hq (by omega), h3]
      simp
theorem addSt_new {l : List K} {Lv : List KV} {kv : KV} {i : Nat} {M : List KV} (q : KV) (hq : Lv[i]? = some q) (h : AddSt l Lv kv i false M) (hid : kv.k.id < (l.getD i K0).id) : AddSt l Lv kv (i + 1) true (M ++ [kv] ++ [q]) := by
  rcases h with ⟨_, h2, h3⟩ | ⟨h, _⟩
  · refine .inr ⟨rfl, ?_, i, by omega, ?_, h3, hid⟩
    · intro t ht
      rcases Nat.lt_or_ge t i with h | h
      · have := h3 t h; omega
      · have e : t = i := by omega
        subst e; omega
    · rw [drop_take_snoc Lv i i q hq (Nat.le_refl _), h2, Nat.sub_self, List.take_zero, List.nil_append]
      simp
  · cases h
theorem any_false {l : List K} {id : Int} (h : ∀ t, t < l.length → (l.getD t K0).id ≠ id) : l.any (fun q => q.id == id) = false := by
  rw [List.any_eq_false]
  intro x hx
  obtain ⟨j, hj, rfl⟩ := List.getElem_of_mem hx
  have := h j hj
  rw [List.getD_eq_getElem?_getD, List.getElem?_eq_getElem hj] at this
  simpa using this
theorem any_true {l : List K} {id : Int} (t : Nat) (ht : t < l.length) (h : (l.getD t K0).id = id) : l.any (fun q => q.id == id) = true := by
  rw [List.any_eq_true]
  refine ⟨l[t], List.getElem_mem ht, ?_⟩
  rw [List.getD_eq_getElem?_getD, List.getElem?_eq_getElem ht] at h
  simpa using h
theorem addSt_end_put {l : List K} {Lv : List KV} {kv : KV} {M : List KV} (hr : isR l = true) (hk : kv.k.right = true) (hl : Lv.map (·.k) = l) (h : AddSt l Lv kv l.length true M) : M.map (·.k) = addK l kv.k ∧ addE l kv.k = 0 := by
  rcases h with ⟨h, _⟩ | ⟨_, h2, j, hj, h3, h4, h5⟩
  · cases h
  · have ha := any_false h2
    have hp : placeN l kv.k.id = j := place_at j (by omega) h4 (fun _ => by omega)
    have hlen : Lv.length = l.length := by rw [← hl, List.length_map]
    refine ⟨?_, by rw [addE, hr, hk, ha]; rfl⟩
    rw [addK, hr, hk, ha, hp, h3]
    have e : (Lv.drop j).take (l.length - j) = Lv.drop j := List.take_of_length_le (by simp; omega)
    rw [e, List.map_append, List.map_cons, List.map_take, List.map_drop, hl]
    rfl
theorem addSt_end_low {l : List K} {Lv : List KV} {kv : KV} {M : List KV} (hr : isR l = true) (hk : kv.k.right = true) (hl : Lv.map (·.k) = l) (h : AddSt l Lv kv l.length false M) : (M ++ [kv]).map (·.k) = addK l kv.k ∧ addE l kv.k = 0 := by
  rcases h with ⟨_, h2, h3⟩ | ⟨h, _⟩
  · have ha : l.any (fun q => q.id == kv.k.id) = false := any_false (fun t ht => by have := h3 t ht; omega)
    have hp : placeN l kv.k.id = l.length := place_at _ (Nat.le_refl _) h3 (fun h => by omega)
    have hlen : Lv.length = l.length := by rw [← hl, List.length_map]
    refine ⟨?_, by rw [addE, hr, hk, ha]; rfl⟩
    rw [addK, hr, hk, ha, hp, h2, List.take_of_length_le (by omega), List.map_append, hl, List.take_length, List.drop_length]
    rfl
  · cases h
theorem addSt_mem {l : List K} {Lv : List KV} {kv : KV} {i : Nat} {put : Bool} {M : List KV} (h : AddSt l Lv kv i put M) : ∀ q ∈ M, q = kv ∨ q ∈ Lv := by
  rcases h with ⟨_, h2, _⟩ | ⟨_, _, j, _, h3, _⟩
  · intro q hq; rw [h2] at hq; exact .inr (List.mem_of_mem_take hq)
  · intro q hq
    rw [h3] at hq
    rcases List.mem_append.1 hq with h | h
    · exact .inr (List.mem_of_mem_take h)
    · rcases List.mem_cons.1 h with h | h
      · exact .inl h
      · exact .inr (List.mem_of_mem_drop (List.mem_of_mem_take h))
theorem addSt_len {l : List K} {Lv : List KV} {kv : KV} {i : Nat} {put : Bool} {M : List KV} (h : AddSt l Lv kv i put M) : M.length ≤ i + 1 := by
  rcases h with ⟨_, h2, _⟩ | ⟨_, _, j, hj, h3, _⟩
  · rw [h2, List.length_take]; omega
  · rw [h3, List.length_append, List.length_cons, List.length_take, List.length_take]; omega
/-- A ring has at most a hundred keys. -/
theorem ring_len {l : List K} (h : isR l = true) : l.length ≤ 100 := by
  have hg := isR_true.1 h
  have hlow : ∀ i, i < l.length → (i : Int) ≤ (l.getD i K0).id ∧ (l.getD i K0).id ≤ 99 := by
    intro i
    induction i with
    | zero =>
      intro hi
      have := hg 0 hi
      simp only [goodAt, Bool.and_eq_true] at this
      have := (rightN_iff _ _ _ _).1 this.1
      omega
    | succ i ih =>
      intro hi
      have := hg (i + 1) hi
      simp only [goodAt, Bool.and_eq_true, Bool.or_eq_true, decide_eq_true_eq, beq_iff_eq, Nat.add_sub_cancel] at this
      have h1 := (rightN_iff _ _ _ _).1 this.1
      have h2 := ih (by omega)
      omega
  rcases Nat.lt_or_ge 100 l.length with h | h
  · have := hlow 100 h; omega
  · exact h
theorem addK_len (l : List K) (k : K) (h : l.length ≤ 9223372036854775807) : (addK l k).length ≤ 9223372036854775807 := by
  cases his : (isR l && k.right) with
  | false => simp [addK, his]
  | true =>
    have h1 : isR l = true := by simp at his; exact his.1
    have h2 := ring_len h1
    unfold addK
    rw [if_pos his]
    split
    · simp
    · rw [List.length_append, List.length_cons, List.length_take, List.length_drop]
      omega
end Go.Proofs.Ytedkgkokfaadfaa
