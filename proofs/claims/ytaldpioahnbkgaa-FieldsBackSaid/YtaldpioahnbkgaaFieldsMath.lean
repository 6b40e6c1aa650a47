/-
  Plain facts for layer 18 (fields): the least versions of tags, what a barcode says as fields, and back; that these are one another's. No memory and no program here.
-/
import Derived.Test.YtaldpioahnbkgaaTlvMath
import Derived.Test.YtaldpioahnbkgaaRg
namespace Go.Proofs.Ytaldpioahnbkgaa

/-- The least version that tells a tag, and whether there is such a tag. -/
def leastN (t : Int) : Int := if t < 1 ∨ 13 < t then 0 else if t = 8 then 2 else if t = 9 then 3 else 1
def okN (t : Int) : Bool := decide (1 ≤ t) && decide (t ≤ 13)
/-- The numbers of the tags 1 to 13. -/
def numL (r : Rg) : List Int := [r.ver, r.key, r.t.kind, r.t.ser, r.t.frm, r.t.till, r.t.cls, r.t.card, r.t.seat, r.t.day, r.t.days, r.t.uses, r.t.epoch]
/-- The reading of these numbers. -/
def rdL (a : List Int) : Rg := ⟨⟨a.getD 3 0, a.getD 2 0, a.getD 4 0, a.getD 5 0, a.getD 6 0, a.getD 7 0, a.getD 8 0, a.getD 9 0, a.getD 10 0, a.getD 11 0, a.getD 12 0⟩, a.getD 1 0, 0, 0, a.getD 0 0⟩
/-- Without the uses that hang on the kind; with them. -/
def cutU (r : Rg) : Rg := if r.t.kind = 4 then r else { r with t := { r.t with uses := 0 } }
def setU (r : Rg) : Rg := if r.t.kind = 4 then r else { r with t := { r.t with uses := r.t.kind.tmod 3 } }
/-- The tags of numbers but 0, from tag k on; their fields. -/
def tagsF : Nat → List Int → List Nat
  | _, [] => []
  | k, x :: l => (if x = 0 then [] else [k]) ++ tagsF (k + 1) l
def fldF : Nat → List Int → List Tf
  | _, [] => []
  | k, x :: l => (if x = 0 then [] else [⟨k, numB x.toNat⟩]) ++ fldF (k + 1) l
/-- A version tells all these tags. -/
def fitX (v : Int) (ts : List Nat) : Bool := ts.all fun t => decide (leastN t ≤ v)
def argF (r : Rg) : Bool := okT r.t && (decide (0 ≤ r.key) && (decide (r.key ≤ 99) && ((r.left == 0) && ((r.inn == 0) && (decide (1 ≤ r.ver) && decide (r.ver ≤ 3))))))
theorem argF_iff (r : Rg) : argF r = true ↔ okT r.t = true ∧ 0 ≤ r.key ∧ r.key ≤ 99 ∧ r.left = 0 ∧ r.inn = 0 ∧ 1 ≤ r.ver ∧ r.ver ≤ 3 := by simp [argF]
/-- What Put tells. -/
def fdPut (r : Rg) : Nat × List Tf := if argF r = false then (1, []) else if fitX r.ver (tagsF 1 (numL (cutU r))) = false then (18, []) else (0, fldF 1 (numL (cutU r)))
/-- Numbers as fields set them. -/
def fdFill : List Int → List Tf → Nat × List Int
  | a, [] => (0, a)
  | a, f :: l => if 128 ≤ f.tag then (16, a) else if 13 < f.tag then (15, a) else if (valT f.val).2 ≠ 0 then ((valT f.val).2, a) else fdFill (a.set (f.tag.toNat - 1) ((valT f.val).1 : Nat)) l
def z13 : List Int := [0, 0, 0, 0, 0, 0, 0, 0, 0, 0, 0, 0, 0]
def verX (a : List Int) : Bool := decide (1 ≤ a.getD 0 0) && (decide (a.getD 0 0 ≤ 3) && fitX (a.getD 0 0) (tagsF 1 a))
def rightF (r : Rg) : Bool := ((r.t.kind == 4) || (r.t.uses == 0)) && (decide (r.key ≤ 99) && okT (setU r).t)
def fdTold (a : List Int) : Nat × Rg := if verX a = false then (12, zeroR) else if rightF (rdL a) = false then (9, zeroR) else (0, setU (rdL a))
/-- What Get tells. -/
def fdGet (l : List Tf) : Nat × Rg := if isT 0 l = false then (1, zeroR) else if (fdFill z13 l).1 ≠ 0 then ((fdFill z13 l).1, zeroR) else fdTold (fdFill z13 l).2

theorem tagsF_snoc (l : List Int) (x : Int) : ∀ k, tagsF k (l ++ [x]) = tagsF k l ++ (if x = 0 then [] else [k + l.length]) := by
  induction l with
  | nil => intro k; simp [tagsF]
  | cons y l ih => intro k; rw [List.cons_append, tagsF, tagsF, ih, List.append_assoc, List.length_cons, show k + 1 + l.length = k + (l.length + 1) by omega]
theorem fldF_snoc (l : List Int) (x : Int) : ∀ k, fldF k (l ++ [x]) = fldF k l ++ (if x = 0 then [] else [⟨((k + l.length : Nat) : Int), numB x.toNat⟩]) := by
  induction l with
  | nil => intro k; simp [fldF]
  | cons y l ih => intro k; rw [List.cons_append, fldF, fldF, ih, List.append_assoc, List.length_cons, show k + 1 + l.length = k + (l.length + 1) by omega]
theorem take_snocI (l : List Int) (k : Nat) (h : k < l.length) : l.take (k + 1) = l.take k ++ [l.getD k 0] := by
  rw [List.take_succ_eq_append_getElem h, List.getD_eq_getElem?_getD, List.getElem?_eq_getElem h]; rfl
theorem tagsF_take (a : List Int) (j : Nat) (h : j < a.length) : tagsF 1 (a.take (j + 1)) = tagsF 1 (a.take j) ++ (if a.getD j 0 = 0 then [] else [j + 1]) := by
  rw [take_snocI a j h, tagsF_snoc, List.length_take, Nat.min_eq_left (by omega), Nat.add_comm 1 j]
theorem fldF_take (a : List Int) (j : Nat) (h : j < a.length) : fldF 1 (a.take (j + 1)) = fldF 1 (a.take j) ++ (if a.getD j 0 = 0 then [] else [⟨((j + 1 : Nat) : Int), numB (a.getD j 0).toNat⟩]) := by
  rw [take_snocI a j h, fldF_snoc, List.length_take, Nat.min_eq_left (by omega), Nat.add_comm 1 j]
theorem tagsF_mem : ∀ (s : List Int) (k t : Nat), t ∈ tagsF k s → k ≤ t ∧ t < k + s.length ∧ s.getD (t - k) 0 ≠ 0
  | [], k, t, h => by simp [tagsF] at h
  | x :: s, k, t, h => by
    rw [tagsF, List.mem_append] at h
    rcases h with h | h
    · by_cases h0 : x = 0
      · rw [if_pos h0] at h; simp at h
      · rw [if_neg h0] at h
        simp at h
        subst h
        simp [h0]
    · obtain ⟨h1, h2, h3⟩ := tagsF_mem s (k + 1) t h
      refine ⟨by omega, by simp; omega, ?_⟩
      rw [show t - k = (t - (k + 1)) + 1 by omega, List.getD_cons_succ]
      exact h3
theorem mem_tagsF : ∀ (s : List Int) (k i : Nat), i < s.length → s.getD i 0 ≠ 0 → k + i ∈ tagsF k s
  | [], k, i, h, _ => by simp at h
  | x :: s, k, 0, h, h0 => by
    rw [tagsF, List.mem_append, if_neg (by simpa using h0)]
    exact .inl (by simp)
  | x :: s, k, i + 1, h, h0 => by
    rw [tagsF, List.mem_append]
    refine .inr ?_
    rw [show k + (i + 1) = k + 1 + i by omega]
    exact mem_tagsF s (k + 1) i (by simpa using h) (by rwa [List.getD_cons_succ] at h0)
theorem tagsF_len : ∀ (s : List Int) (k : Nat), (tagsF k s).length ≤ s.length
  | [], k => by simp [tagsF]
  | x :: s, k => by
    have := tagsF_len s (k + 1)
    rw [tagsF, List.length_append, List.length_cons]
    split <;> simp <;> omega
theorem fldF_len : ∀ (s : List Int) (k : Nat), (fldF k s).length = (tagsF k s).length
  | [], k => rfl
  | x :: s, k => by
    rw [tagsF, fldF, List.length_append, List.length_append, fldF_len s (k + 1)]
    split <;> rfl
/-- Fields of these tags. -/
def fldT (a : List Int) (ts : List Nat) : List Tf := ts.map fun t => ⟨(t : Nat), numB (a.getD (t - 1) 0).toNat⟩
theorem fldT_from (s : List Int) : ∀ (p : List Int), fldT (p ++ s) (tagsF (p.length + 1) s) = fldF (p.length + 1) s := by
  induction s with
  | nil => intro p; rfl
  | cons x s ih =>
    intro p
    have hi := ih (p ++ [x])
    rw [List.append_assoc, List.length_append] at hi
    rw [tagsF, fldF, fldT, List.map_append]
    congr 1
    by_cases h0 : x = 0
    · rw [if_pos h0, if_pos h0]; rfl
    · rw [if_neg h0, if_neg h0]
      simp
theorem fldT_all (a : List Int) : fldT a (tagsF 1 a) = fldF 1 a := fldT_from a []
theorem fldT_snoc (a : List Int) (ts : List Nat) (j t : Nat) (h : ts[j]? = some t) : fldT a (ts.take (j + 1)) = fldT a (ts.take j) ++ [⟨(t : Nat), numB (a.getD (t - 1) 0).toNat⟩] := by
  have hj : j < ts.length := (List.getElem?_eq_some_iff.1 h).1
  have e : ts[j] = t := (List.getElem?_eq_some_iff.1 h).2
  rw [fldT, List.take_succ_eq_append_getElem hj, List.map_append, e]
  rfl
theorem fldF_zeros : ∀ (g k : Nat) (s : List Int), fldF k (List.replicate g 0 ++ s) = fldF (k + g) s
  | 0, k, s => by simp
  | g + 1, k, s => by
    rw [List.replicate_succ, List.cons_append, fldF, if_pos rfl, List.nil_append, fldF_zeros g (k + 1) s, show k + 1 + g = k + (g + 1) by omega]
/-- A number that seven bytes tell. -/
def In56 (x : Int) : Prop := 0 ≤ x ∧ x < 72057594037927936
theorem size_in {n : Nat} (h : n < 72057594037927936) : sizeN n ≤ 7 := by
  obtain ⟨h1, _, h3⟩ := sizeN_spec (n := n) (by omega)
  rcases Nat.lt_or_ge (sizeN n) 8 with h4 | h4
  · omega
  · by_cases h0 : n = 0
    · subst h0
      simp [sizeN, sizeK] at h4
    · have h5 := (h3 h0).1
      have : sizeN n = 8 := by omega
      rw [this] at h5
      omega
theorem valT_in {x : Int} (h : In56 x) (h0 : x ≠ 0) : valT (numB x.toNat) = (x.toNat, 0) := by
  obtain ⟨h1, h2⟩ := h
  exact valT_num (by omega) (by omega) (size_in (by omega))
theorem set_next (p : List Int) (n : Nat) (x : Int) : (p ++ List.replicate (n + 1) 0).set p.length x = (p ++ [x]) ++ List.replicate n 0 := by
  induction p with
  | nil => simp [List.replicate_succ]
  | cons y p ih => rw [List.cons_append, List.length_cons, List.set_cons_succ, ih]; simp
theorem fill_fld : ∀ (s p : List Int), p.length + s.length = 13 → (∀ x ∈ s, In56 x) → fdFill (p ++ List.replicate s.length 0) (fldF (p.length + 1) s) = (0, p ++ s)
  | [], p, _, _ => by simp [fldF, fdFill]
  | x :: s, p, hl, hin => by
    rw [List.length_cons] at hl
    have hi := fill_fld s (p ++ [x]) (by rw [List.length_append, List.length_singleton]; omega) (fun y hy => hin y (by simp [hy]))
    rw [List.length_append, List.length_singleton, List.append_assoc p [x] s] at hi
    by_cases h0 : x = 0
    · rw [fldF, if_pos h0, List.nil_append, List.length_cons, List.replicate_succ]
      rw [h0] at hi ⊢
      rw [show p ++ (0 : Int) :: List.replicate s.length 0 = p ++ [0] ++ List.replicate s.length 0 by simp]
      exact hi
    · have hx := hin x (by simp)
      have hv := valT_in hx h0
      rw [fldF, if_neg h0, List.singleton_append, fdFill, if_neg (by show ¬ (128 : Int) ≤ ((p.length + 1 : Nat) : Int); omega), if_neg (by show ¬ (13 : Int) < ((p.length + 1 : Nat) : Int); omega), hv, if_neg (by simp), List.length_cons]
      rw [show (((p.length + 1 : Nat) : Int).toNat - 1) = p.length by omega]
      rw [show (((x.toNat, 0) : Nat × Nat).1 : Int) = x by have := hx.1; simp; omega]
      rw [set_next]
      exact hi
theorem fld_is : ∀ (s : List Int) (k : Nat), k + s.length ≤ 255 → (∀ x ∈ s, In56 x) → isT (k : Int) (fldF (k + 1) s) = true
  | [], k, _, _ => rfl
  | x :: s, k, hl, hin => by
    rw [List.length_cons] at hl
    have hi := fld_is s (k + 1) (by omega) (fun y hy => hin y (by simp [hy]))
    by_cases h0 : x = 0
    · rw [fldF, if_pos h0, List.nil_append]
      exact isT_weak (by omega) hi
    · rw [fldF, if_neg h0, List.singleton_append, isT, Bool.and_eq_true]
      have hx := hin x (by simp)
      have := size_in (n := x.toNat) (by have := hx.2; have := hx.1; omega)
      exact ⟨(okTf_iff _ _ _).2 ⟨by show (k : Int) < ((k + 1 : Nat) : Int); omega, by show ((k + 1 : Nat) : Int) ≤ 255; omega, by rw [numB_len]; omega⟩, hi⟩
theorem set_far (p : List Int) (g n : Nat) (x : Int) : (p ++ List.replicate (g + (n + 1)) 0).set (p.length + g) x = (p ++ List.replicate g 0 ++ [x]) ++ List.replicate n 0 := by
  have h := set_next (p ++ List.replicate g 0) n x
  rw [List.length_append, List.length_replicate, List.append_assoc p, List.replicate_append_replicate] at h
  exact h
theorem fld_fill : ∀ (l : List Tf) (p a : List Int), p.length ≤ 13 → isT (p.length : Int) l = true → (∀ f ∈ l, ∀ x ∈ f.val, x < 256) → fdFill (p ++ List.replicate (13 - p.length) 0) l = (0, a) →
    ∃ s, a = p ++ s ∧ s.length = 13 - p.length ∧ l = fldF (p.length + 1) s ∧ ∀ x ∈ s, In56 x
  | [], p, a, hp, _, _, h => by
    rw [fdFill] at h
    cases h
    refine ⟨_, rfl, by simp, ?_, ?_⟩
    · have := fldF_zeros (13 - p.length) (p.length + 1) []
      rw [List.append_nil] at this
      rw [this]; rfl
    · intro x hx
      rw [List.eq_of_mem_replicate hx]
      exact ⟨by omega, by omega⟩
  | f :: l, p, a, hp, hi, hb, h => by
    simp only [isT, Bool.and_eq_true] at hi
    obtain ⟨i1, i2, i3⟩ := (okTf_iff _ _ _).1 hi.1
    rw [fdFill] at h
    by_cases h1 : 128 ≤ f.tag
    · rw [if_pos h1] at h; cases h
    rw [if_neg h1] at h
    by_cases h2 : 13 < f.tag
    · rw [if_pos h2] at h; cases h
    rw [if_neg h2] at h
    by_cases h3 : (valT f.val).2 ≠ 0
    · rw [if_pos h3] at h; exact absurd (Prod.mk.inj h).1 h3
    rw [if_neg h3] at h
    obtain ⟨v, hv⟩ : ∃ v, valT f.val = (v, 0) := ⟨(valT f.val).1, by have h4 : (valT f.val).2 = 0 := by omega
                                                                     rw [← h4]⟩
    rw [hv] at h
    obtain ⟨v1, v2, v3⟩ := num_valT (hb f (by simp)) hv
    obtain ⟨t, ht⟩ : ∃ t : Nat, f.tag = (t : Int) := ⟨f.tag.toNat, by omega⟩
    obtain ⟨g, hg⟩ : ∃ g, t = p.length + g + 1 := ⟨t - p.length - 1, by omega⟩
    have hz : 13 - p.length = g + ((13 - t) + 1) := by omega
    rw [ht, Int.toNat_natCast, show t - 1 = p.length + g by omega, hz, set_far] at h
    have hpl : (p ++ List.replicate g 0 ++ [((v : Nat) : Int)]).length = t := by simp; omega
    have hr := fld_fill l (p ++ List.replicate g 0 ++ [((v : Nat) : Int)]) a (by omega) (by rw [hpl, ← ht]; exact hi.2) (fun q hq => hb q (by simp [hq])) (by rw [hpl]; exact h)
    rw [hpl] at hr
    obtain ⟨s, e1, e2, e3, e4⟩ := hr
    refine ⟨List.replicate g 0 ++ ((v : Nat) : Int) :: s, by rw [e1]; simp, by simp; omega, ?_, ?_⟩
    · rw [fldF_zeros, fldF, if_neg (by omega), List.singleton_append]
      have : p.length + 1 + g = t := by omega
      rw [this, ← e3, Int.toNat_natCast, v3, ← ht]
    · intro x hx
      rw [List.mem_append, List.mem_cons] at hx
      rcases hx with hx | rfl | hx
      · rw [List.eq_of_mem_replicate hx]; exact ⟨by omega, by omega⟩
      · exact ⟨by omega, by omega⟩
      · exact e4 x hx
theorem list_13 {a : List Int} (h : a.length = 13) : a = numL (rdL a) := by
  match a, h with
  | [a0, a1, a2, a3, a4, a5, a6, a7, a8, a9, a10, a11, a12], _ => rfl
theorem numL_rd (r : Rg) (h1 : r.left = 0) (h2 : r.inn = 0) : rdL (numL r) = r := by
  obtain ⟨⟨a0, a1, a2, a3, a4, a5, a6, a7, a8, a9, a10⟩, a11, a12, a13, a14⟩ := r
  simp only at h1 h2
  subst h1 h2
  rfl
theorem numL_len (r : Rg) : (numL r).length = 13 := rfl
theorem isN_in {n : Int} (h : isN n = true) : 0 ≤ n ∧ n ≤ 1000 := by
  simp [isN] at h
  omega
theorem num_in {r : Rg} (h : argF r = true) : ∀ x ∈ numL (cutU r), 0 ≤ x ∧ x ≤ 1099511627776 := by
  obtain ⟨h1, h2, h3, h4, h5, h6, h7⟩ := (argF_iff r).1 h
  have hn := (numsB_iff r.t).1 ((okT_iff r.t).1 h1).1
  have hd := (daysB_iff r.t).1 ((okT_iff r.t).1 h1).2.1
  have hu := uses_of h1
  have hp : (0 ≤ r.t.frm ∧ r.t.frm ≤ 1000) ∧ (0 ≤ r.t.till ∧ r.t.till ≤ 1000) := by
    by_cases hk : r.t.kind = 3
    · have := zones_of h1 hk
      omega
    · obtain ⟨w1, w2, _⟩ := way_of h1 hk
      exact ⟨isN_in w1, isN_in w2⟩
  intro x hx
  unfold cutU at hx
  by_cases hk : r.t.kind = 4
  · rw [if_pos hk] at hx
    have := hu.1 hk
    simp only [numL, List.mem_cons, List.not_mem_nil, or_false] at hx
    omega
  · rw [if_neg hk] at hx
    simp only [numL, List.mem_cons, List.not_mem_nil, or_false] at hx
    omega
theorem cut_ver (r : Rg) : (cutU r).ver = r.ver := by unfold cutU; split <;> rfl
theorem cut_left (r : Rg) : (cutU r).left = r.left := by unfold cutU; split <;> rfl
theorem cut_inn (r : Rg) : (cutU r).inn = r.inn := by unfold cutU; split <;> rfl
theorem cut_key (r : Rg) : (cutU r).key = r.key := by unfold cutU; split <;> rfl
theorem cut_kind (r : Rg) : (cutU r).t.kind = r.t.kind := by unfold cutU; split <;> rfl
theorem set_ver (r : Rg) : (setU r).ver = r.ver := by unfold setU; split <;> rfl
theorem set_left (r : Rg) : (setU r).left = r.left := by unfold setU; split <;> rfl
theorem set_inn (r : Rg) : (setU r).inn = r.inn := by unfold setU; split <;> rfl
theorem set_key (r : Rg) : (setU r).key = r.key := by unfold setU; split <;> rfl
theorem set_kind (r : Rg) : (setU r).t.kind = r.t.kind := by unfold setU; split <;> rfl
theorem set_cut {r : Rg} (h : okT r.t = true) : setU (cutU r) = r := by
  have hu := uses_of h
  unfold setU
  rw [cut_kind]
  unfold cutU
  by_cases hk : r.t.kind = 4
  · rw [if_pos hk, if_pos hk]
  · rw [if_neg hk, if_neg hk]
    have := hu.2 hk
    obtain ⟨⟨a0, a1, a2, a3, a4, a5, a6, a7, a8, a9, a10⟩, a11, a12, a13, a14⟩ := r
    simp only at this ⊢
    rw [this]
theorem cut_set {r : Rg} (h : r.t.kind = 4 ∨ r.t.uses = 0) : cutU (setU r) = r := by
  unfold cutU
  rw [set_kind]
  unfold setU
  by_cases hk : r.t.kind = 4
  · rw [if_pos hk, if_pos hk]
  · rw [if_neg hk, if_neg hk]
    have hu : r.t.uses = 0 := by omega
    obtain ⟨⟨a0, a1, a2, a3, a4, a5, a6, a7, a8, a9, a10⟩, a11, a12, a13, a14⟩ := r
    simp only at hu ⊢
    rw [hu]
theorem cut_uses (r : Rg) : (cutU r).t.kind = 4 ∨ (cutU r).t.uses = 0 := by
  rw [cut_kind]
  unfold cutU
  by_cases hk : r.t.kind = 4
  · exact .inl hk
  · rw [if_neg hk]; exact .inr rfl
theorem fdPut_arg {r : Rg} (h : argF r = false) : fdPut r = (1, []) := by rw [fdPut, if_pos h]
theorem fdPut_fit {r : Rg} (h : argF r = true) (h2 : fitX r.ver (tagsF 1 (numL (cutU r))) = false) : fdPut r = (18, []) := by rw [fdPut, if_neg (by rw [h]; decide), if_pos h2]
theorem fdPut_ok {r : Rg} (h : argF r = true) (h2 : fitX r.ver (tagsF 1 (numL (cutU r))) = true) : fdPut r = (0, fldF 1 (numL (cutU r))) := by rw [fdPut, if_neg (by rw [h]; decide), if_neg (by rw [h2]; decide)]
theorem fdPut_zero {r : Rg} {l : List Tf} (h : fdPut r = (0, l)) : argF r = true ∧ fitX r.ver (tagsF 1 (numL (cutU r))) = true ∧ l = fldF 1 (numL (cutU r)) := by
  cases h1 : argF r with
  | false => rw [fdPut_arg h1] at h; cases h
  | true =>
    cases h2 : fitX r.ver (tagsF 1 (numL (cutU r))) with
    | false => rw [fdPut_fit h1 h2] at h; cases h
    | true => rw [fdPut_ok h1 h2] at h; exact ⟨rfl, rfl, ((Prod.mk.inj h).2).symm⟩
theorem fdPut_bad {r : Rg} {E : Nat} {l : List Tf} (h : fdPut r = (E, l)) (h0 : E ≠ 0) : l = [] ∧ (E = 1 ∨ E = 18) := by
  cases h1 : argF r with
  | false => rw [fdPut_arg h1] at h; cases h; exact ⟨rfl, .inl rfl⟩
  | true =>
    cases h2 : fitX r.ver (tagsF 1 (numL (cutU r))) with
    | false => rw [fdPut_fit h1 h2] at h; cases h; exact ⟨rfl, .inr rfl⟩
    | true => rw [fdPut_ok h1 h2] at h; exact absurd (Prod.mk.inj h).1.symm h0
theorem fdFill_z (l : List Tf) : fdFill z13 l = fdFill ([] ++ List.replicate (13 - ([] : List Int).length) 0) l := rfl
/-- What was put is got again. -/
theorem get_put {r : Rg} {l : List Tf} (h : fdPut r = (0, l)) : isT 0 l = true ∧ fdGet l = (0, r) ∧ l.length ≤ 13 := by
  obtain ⟨h1, h2, h3⟩ := fdPut_zero h
  obtain ⟨a1, a2, a3, a4, a5, a6, a7⟩ := (argF_iff r).1 h1
  have hin : ∀ x ∈ numL (cutU r), In56 x := fun x hx => by have := num_in h1 x hx; exact ⟨this.1, by omega⟩
  have hi : isT 0 l = true := by rw [h3]; exact fld_is (numL (cutU r)) 0 (by rw [numL_len]; omega) hin
  have hf : fdFill z13 l = (0, numL (cutU r)) := by rw [h3]; exact fill_fld (numL (cutU r)) [] (by rw [numL_len]; rfl) hin
  have hr : rdL (numL (cutU r)) = cutU r := numL_rd _ (by rw [cut_left]; exact a4) (by rw [cut_inn]; exact a5)
  have hv : (numL (cutU r)).getD 0 0 = r.ver := cut_ver r
  refine ⟨hi, ?_, by rw [h3, fldF_len]; exact Nat.le_trans (tagsF_len _ _) (by rw [numL_len]; omega)⟩
  rw [fdGet, if_neg (by rw [hi]; decide), hf, if_neg (by simp), fdTold]
  have e1 : verX (numL (cutU r)) = true := by rw [verX, hv, h2]; simp; omega
  have e2 : rightF (rdL (numL (cutU r))) = true := by
    rw [hr, rightF, set_cut a1, a1, cut_key]
    have := cut_uses r
    simp
    exact ⟨this, a3⟩
  simp only [e1, e2, Bool.true_eq_false, if_false]
  rw [hr, set_cut a1]
theorem fdGet_zero {l : List Tf} {r : Rg} (h : fdGet l = (0, r)) : isT 0 l = true ∧ ∃ a, fdFill z13 l = (0, a) ∧ verX a = true ∧ rightF (rdL a) = true ∧ r = setU (rdL a) := by
  cases h1 : isT 0 l with
  | false => rw [fdGet, if_pos h1] at h; cases h
  | true =>
    rw [fdGet, if_neg (by rw [h1]; decide)] at h
    by_cases h2 : (fdFill z13 l).1 ≠ 0
    · rw [if_pos h2] at h; exact absurd (Prod.mk.inj h).1 h2
    · rw [if_neg h2] at h
      refine ⟨rfl, (fdFill z13 l).2, by have : (fdFill z13 l).1 = 0 := by omega
                                        rw [← this], ?_⟩
      generalize (fdFill z13 l).2 = a at h
      rw [fdTold] at h
      cases h3 : verX a with
      | false => rw [if_pos h3] at h; cases h
      | true =>
        rw [if_neg (by rw [h3]; decide)] at h
        cases h4 : rightF (rdL a) with
        | false => rw [if_pos h4] at h; cases h
        | true =>
          rw [if_neg (by rw [h4]; decide)] at h
          exact ⟨rfl, rfl, ((Prod.mk.inj h).2).symm⟩
theorem fdGet_bad {l : List Tf} {r : Rg} {E : Nat} (h : fdGet l = (E, r)) (h0 : E ≠ 0) : r = zeroR := by
  rw [fdGet] at h
  split at h
  · exact ((Prod.mk.inj h).2).symm
  · split at h
    · exact ((Prod.mk.inj h).2).symm
    · rw [fdTold] at h
      split at h
      · exact ((Prod.mk.inj h).2).symm
      · split at h
        · exact ((Prod.mk.inj h).2).symm
        · exact absurd (Prod.mk.inj h).1.symm h0
/-- What was got is right, and put as it was. -/
theorem put_get {l : List Tf} {r : Rg} (hb : ∀ f ∈ l, ∀ x ∈ f.val, x < 256) (h : fdGet l = (0, r)) : fdPut r = (0, l) ∧ okT r.t = true := by
  obtain ⟨h1, a, h2, h3, h4, h5⟩ := fdGet_zero h
  rw [fdFill_z] at h2
  obtain ⟨s, e1, e2, e3, e4⟩ := fld_fill l [] a (by decide) h1 hb h2
  rw [List.nil_append] at e1
  subst e1
  have hl : a.length = 13 := e2
  have ha := list_13 hl
  simp [rightF] at h4
  obtain ⟨k1, k2, k3⟩ := h4
  have hc : cutU r = rdL a := by rw [h5]; exact cut_set k1
  have hn : numL (cutU r) = a := by rw [hc]; exact ha.symm
  have hv : r.ver = a.getD 0 0 := by rw [h5, set_ver]; rfl
  have ho : okT r.t = true := by rw [h5]; exact k3
  simp [verX] at h3
  obtain ⟨v1, v2, v3⟩ := h3
  have hk : In56 (rdL a).key := e4 _ (by rw [ha]; exact List.mem_of_getElem? (i := 1) rfl)
  refine ⟨?_, ho⟩
  rw [fdPut_ok ((argF_iff r).2 ⟨ho, by rw [h5, set_key]; exact hk.1, by rw [h5, set_key]; exact k2, by rw [h5, set_left]; rfl, by rw [h5, set_inn]; rfl, by rw [hv]; simpa using v1, by rw [hv]; simpa using v2⟩) (by rw [hn, hv]; simpa using v3), hn]
  rw [show fldF 1 a = l from e3.symm]
theorem fitX_more {v : Int} {ts : List Nat} (h : fitX v ts = true) : fitX (v + 1) ts = true := by
  simp only [fitX, List.all_eq_true, decide_eq_true_eq] at h ⊢
  intro t ht
  have := h t ht
  omega
/-- What a version tells, the next one tells as well. -/
theorem put_more {r : Rg} {l : List Tf} (h : fdPut r = (0, l)) (hv : r.ver + 1 ≤ 3) : ∃ f g t, l = f :: t ∧ fdPut { r with ver := r.ver + 1 } = (0, g :: t) := by
  obtain ⟨h1, h2, h3⟩ := fdPut_zero h
  obtain ⟨a1, a2, a3, a4, a5, a6, a7⟩ := (argF_iff r).1 h1
  have ha : argF { r with ver := r.ver + 1 } = true := (argF_iff _).2 ⟨a1, a2, a3, a4, a5, by simp only; omega, by simp only; omega⟩
  obtain ⟨q, e1, e2⟩ : ∃ q, numL (cutU r) = r.ver :: q ∧ numL (cutU { r with ver := r.ver + 1 }) = (r.ver + 1) :: q := by
    by_cases hk : r.t.kind = 4
    · refine ⟨(numL (cutU r)).drop 1, ?_, ?_⟩
      · rw [cutU, if_pos hk]; rfl
      · rw [cutU, if_pos (show ({ r with ver := r.ver + 1 } : Rg).t.kind = 4 from hk), cutU, if_pos hk]; rfl
    · refine ⟨(numL (cutU r)).drop 1, ?_, ?_⟩
      · rw [cutU, if_neg hk]; rfl
      · rw [cutU, if_neg (show ¬ ({ r with ver := r.ver + 1 } : Rg).t.kind = 4 from hk), cutU, if_neg hk]; rfl
  rw [e1, tagsF, if_neg (by omega)] at h2
  rw [e1, fldF, if_neg (by omega), List.singleton_append] at h3
  refine ⟨_, ⟨((1 : Nat) : Int), numB (r.ver + 1).toNat⟩, _, h3, ?_⟩
  rw [fdPut_ok ha (by rw [e2, tagsF, if_neg (by omega)]; exact fitX_more h2), e2, fldF, if_neg (by omega), List.singleton_append]
/-- Unlike readings have unlike fields. -/
theorem put_unlike {r s : Rg} {l m : List Tf} (h : fdPut r = (0, l)) (g : fdPut s = (0, m)) : l = m ↔ r = s := by
  constructor
  · intro e
    subst e
    have h1 := (get_put h).2.1
    have g1 := (get_put g).2.1
    rw [h1] at g1
    exact (Prod.mk.inj g1).2
  · intro e
    subst e
    rw [h] at g
    exact (Prod.mk.inj g).2
end Go.Proofs.Ytaldpioahnbkgaa
