import Derived.Test.YtcnglbliidjnfaaGreatDoorMath
section
namespace Go.Proofs.YtcnglbliidjnfaaGreatDoor

def leastN (t : Int) : Int := if t < 1 ∨ 13 < t then 0 else if t = 8 then 2 else if t = 9 then 3 else 1
def okN (t : Int) : Bool := decide (1 ≤ t) && decide (t ≤ 13)
def numL (r : Rg) : List Int := [r.ver, r.key, r.t.kind, r.t.ser, r.t.frm, r.t.till, r.t.cls, r.t.card, r.t.seat, r.t.day, r.t.days, r.t.uses, r.t.epoch]
def rdL (a : List Int) : Rg := ⟨⟨a.getD 3 0, a.getD 2 0, a.getD 4 0, a.getD 5 0, a.getD 6 0, a.getD 7 0, a.getD 8 0, a.getD 9 0, a.getD 10 0, a.getD 11 0, a.getD 12 0⟩, a.getD 1 0, 0, 0, a.getD 0 0⟩
def cutU (r : Rg) : Rg := if r.t.kind = 4 then r else { r with t := { r.t with uses := 0 } }
def setU (r : Rg) : Rg := if r.t.kind = 4 then r else { r with t := { r.t with uses := r.t.kind.tmod 3 } }
def tagsF : Nat → List Int → List Nat
  | _, [] => []
  | k, x :: l => (if x = 0 then [] else [k]) ++ tagsF (k + 1) l
def fldF : Nat → List Int → List Tf
  | _, [] => []
  | k, x :: l => (if x = 0 then [] else [⟨k, numB x.toNat⟩]) ++ fldF (k + 1) l
def fitX (v : Int) (ts : List Nat) : Bool := ts.all fun t => decide (leastN t ≤ v)
def argF (r : Rg) : Bool := okT r.t && (decide (0 ≤ r.key) && (decide (r.key ≤ 99) && ((r.left == 0) && ((r.inn == 0) && (decide (1 ≤ r.ver) && decide (r.ver ≤ 3))))))
theorem argF_iff (r : Rg) : argF r = true ↔ okT r.t = true ∧ 0 ≤ r.key ∧ r.key ≤ 99 ∧ r.left = 0 ∧ r.inn = 0 ∧ 1 ≤ r.ver ∧ r.ver ≤ 3 := by simp [argF]
def fdPut (r : Rg) : Nat × List Tf := if argF r = false then (1, []) else if fitX r.ver (tagsF 1 (numL (cutU r))) = false then (18, []) else (0, fldF 1 (numL (cutU r)))
def fdFill : List Int → List Tf → Nat × List Int
  | a, [] => (0, a)
  | a, f :: l => if 128 ≤ f.tag then (16, a) else if 13 < f.tag then (15, a) else if (valT f.val).2 ≠ 0 then ((valT f.val).2, a) else fdFill (a.set (f.tag.toNat - 1) ((valT f.val).1 : Nat)) l
def z13 : List Int := [0, 0, 0, 0, 0, 0, 0, 0, 0, 0, 0, 0, 0]
def verX (a : List Int) : Bool := decide (1 ≤ a.getD 0 0) && (decide (a.getD 0 0 ≤ 3) && fitX (a.getD 0 0) (tagsF 1 a))
def rightF (r : Rg) : Bool := ((r.t.kind == 4) || (r.t.uses == 0)) && (decide (r.key ≤ 99) && okT (setU r).t)
def fdTold (a : List Int) : Nat × Rg := if verX a = false then (12, zeroR) else if rightF (rdL a) = false then (9, zeroR) else (0, setU (rdL a))
def fdGet (l : List Tf) : Nat × Rg := if isT 0 l = false then (1, zeroR) else if (fdFill z13 l).1 ≠ 0 then ((fdFill z13 l).1, zeroR) else fdTold (fdFill z13 l).2

theorem tagsF_snoc (l : List Int) (x : Int) : ∀ k, tagsF k (l ++ [x]) = tagsF k l ++ (if x = 0 then [] else [k + l.length]) := by
  induction l with
  | nil => intro k; simp [tagsF]
  | cons y l ih => intro k; rw [List.cons_append, tagsF, tagsF, ih, List.append_assoc, List.length_cons, show k + 1 + l.length = k + (l.length + 1) by omega]
theorem fldF_snoc (l : List Int) (x : Int) : ∀ k, fldF k (l ++ [x]) = fldF k l ++ (if x = 0 then [] else [⟨((k + l.length : Nat) : Int), numB x.toNat⟩]) := by
  induction l with
  | nil => intro k; simp [fldF]
  | cons y l ih => intro k; rw [List.cons_append, fldF, fldF, ih, List.append_assoc, List.length_cons, show k + 1 + l.length = k + (l.length + 1) by omega]
theorem take_snocI (l : List Int) (k : Nat) (h : k < l.length) : l.take (k + 1) = l.take k ++ [l.getD k 0] := by
  rw [List.take_succ_eq_append_getElem h, List.getD_eq_getElem?_getD, List.getElem?_eq_getElem h]; rfl
theorem tagsF_take (a : List Int) (j : Nat) (h : j < a.length) : tagsF 1 (a.take (j + 1)) = tagsF 1 (a.take j) ++ (if a.getD j 0 = 0 then [] else [j + 1]) := by
  rw [take_snocI a j h, tagsF_snoc, List.length_take, Nat.min_eq_left (by omega), Nat.add_comm 1 j]
theorem fldF_take (a : List Int) (j : Nat) (h : j < a.length) : fldF 1 (a.take (j + 1)) = fldF 1 (a.take j) ++ (if a.getD j 0 = 0 then [] else [⟨((j + 1 : Nat) : Int), numB (a.getD j 0).toNat⟩]) := by
  rw [take_snocI a j h, fldF_snoc, List.length_take, Nat.min_eq_left (by omega), Nat.add_comm 1 j]
theorem tagsF_mem : ∀ (s : List Int) (k t : Nat), t ∈ tagsF k s → k ≤ t ∧ t < k + s.length ∧ s.getD (t - k) 0 ≠ 0
  | [], k, t, h => by simp [tagsF] at h
  | x :: s, k, t, h => by
    rw [tagsF, List.mem_append] at h
    rcases h with h | h
    · by_cases h0 : x = 0
      · rw [if_pos h0] at h; simp at h
      · rw [if_neg h0] at h
        simp at h
        subst h
        simp [h0]
    · obtain ⟨h1, h2, h3⟩ := tagsF_mem s (k + 1) t h
      refine ⟨by omega, by simp; omega, ?_⟩
      rw [show t - k = (t - (k + 1)) + 1 by omega, List.getD_cons_succ]
      exact h3
theorem mem_tagsF : ∀ (s : List Int) (k i : Nat), i < s.length → s.getD i 0 ≠ 0 → k + i ∈ tagsF k s
  | [], k, i, h, _ => by simp at h
  | x :: s, k, 0, h, h0 => by
    rw [tagsF, List.mem_append, if_neg (by simpa using h0)]
    exact .inl (by simp)
  | x :: s, k, i + 1, h, h0 => by
    rw [tagsF, List.mem_append]
    refine .inr ?_
    rw [show k + (i + 1) = k + 1 + i by omega]
    exact mem_tagsF s (k + 1) i (by simpa using h) (by rwa [List.getD_cons_succ] at h0)
theorem tagsF_len : ∀ (s : List Int) (k : Nat), (tagsF k s).length ≤ s.length
  | [], k => by simp [tagsF]
  | x :: s, k => by
    have := tagsF_len s (k + 1)
    rw [tagsF, List.length_append, List.length_cons]
    split <;> simp <;> omega
theorem fldF_len : ∀ (s : List Int) (k : Nat), (fldF k s).length = (tagsF k s).length
  | [], k => rfl
  | x :: s, k => by
    rw [tagsF, fldF, List.length_append, List.length_append, fldF_len s (k + 1)]
    split <;> rfl
def fldT (a : List Int) (ts : List Nat) : List Tf := ts.map fun t => ⟨(t : Nat), numB (a.getD (t - 1) 0).toNat⟩
theorem fldT_from (s : List Int) : ∀ (p : List Int), fldT (p ++ s) (tagsF (p.length + 1) s) = fldF (p.length + 1) s := by
  induction s with
  | nil => intro p; rfl
  | cons x s ih =>
    intro p
    have hi := ih (p ++ [x])
    rw [List.append_assoc, List.length_append] at hi
    rw [tagsF, fldF, fldT, List.map_append]
    congr 1
    by_cases h0 : x = 0
    · rw [if_pos h0, if_pos h0]; rfl
    · rw [if_neg h0, if_neg h0]
      simp
theorem fldT_all (a : List Int) : fldT a (tagsF 1 a) = fldF 1 a := fldT_from a []
theorem fldT_snoc (a : List Int) (ts : List Nat) (j t : Nat) (h : ts[j]? = some t) : fldT a (ts.take (j + 1)) = fldT a (ts.take j) ++ [⟨(t : Nat), numB (a.getD (t - 1) 0).toNat⟩] := by
  have hj : j < ts.length := (List.getElem?_eq_some_iff.1 h).1
  have e : ts[j] = t := (List.getElem?_eq_some_iff.1 h).2
  rw [fldT, List.take_succ_eq_append_getElem hj, List.map_append, e]
  rfl
theorem fldF_zeros : ∀ (g k : Nat) (s : List Int), fldF k (List.replicate g 0 ++ s) = fldF (k + g) s
  | 0, k, s => by simp
  | g + 1, k, s => by
    rw [List.replicate_succ, List.cons_append, fldF, if_pos rfl, List.nil_append, fldF_zeros g (k + 1) s, show k + 1 + g = k + (g + 1) by omega]
def In56 (x : Int) : Prop := 0 ≤ x ∧ x < 72057594037927936
theorem size_in {n : Nat} (h : n < 72057594037927936) : sizeN n ≤ 7 := by
  obtain ⟨h1, _, h3⟩ := sizeN_spec (n := n) (by omega)
  rcases Nat.lt_or_ge (sizeN n) 8 with h4 | h4
  · omega
  · by_cases h0 : n = 0
    · subst h0
      simp [sizeN, sizeK] at h4
    · have h5 := (h3 h0).1
      have : sizeN n = 8 := by omega
      rw [this] at h5
      omega
theorem valT_in {x : Int} (h : In56 x) (h0 : x ≠ 0) : valT (numB x.toNat) = (x.toNat, 0) := by
  obtain ⟨h1, h2⟩ := h
  exact valT_num (by omega) (by omega) (size_in (by omega))
theorem set_next (p : List Int) (n : Nat) (x : Int) : (p ++ List.replicate (n + 1) 0).set p.length x = (p ++ [x]) ++ List.replicate n 0 := by
  induction p with
  | nil => simp [List.replicate_succ]
  | cons y p ih => rw [List.cons_append, List.length_cons, List.set_cons_succ, ih]; simp
theorem fill_fld : ∀ (s p : List Int), p.length + s.length = 13 → (∀ x ∈ s, In56 x) → fdFill (p ++ List.replicate s.length 0) (fldF (p.length + 1) s) = (0, p ++ s)
  | [], p, _, _ => by simp [fldF, fdFill]
  | x :: s, p, hl, hin => by
    rw [List.length_cons] at hl
    have hi := fill_fld s (p ++ [x]) (by rw [List.length_append, List.length_singleton]; omega) (fun y hy => hin y (by simp [hy]))
    rw [List.length_append, List.length_singleton, List.append_assoc p [x] s] at hi
    by_cases h0 : x = 0
    · rw [fldF, if_pos h0, List.nil_append, List.length_cons, List.replicate_succ]
      rw [h0] at hi ⊢
      rw [show p ++ (0 : Int) :: List.replicate s.length 0 = p ++ [0] ++ List.replicate s.length 0 by simp]
      exact hi
    · have hx := hin x (by simp)
      have hv := valT_in hx h0
      rw [fldF, if_neg h0, List.singleton_append, fdFill, if_neg (by show ¬ (128 : Int) ≤ ((p.length + 1 : Nat) : Int); omega), if_neg (by show ¬ (13 : Int) < ((p.length + 1 : Nat) : Int); omega), hv, if_neg (by simp), List.length_cons]
      rw [show (((p.length + 1 : Nat) : Int).toNat - 1) = p.length by omega]
      rw [show (((x.toNat, 0) : Nat × Nat).1 : Int) = x by have := hx.1; simp; omega]
      rw [set_next]
      exact hi
theorem fld_is : ∀ (s : List Int) (k : Nat), k + s.length ≤ 255 → (∀ x ∈ s, In56 x) → isT (k : Int) (fldF (k + 1) s) = true
  | [], k, _, _ => rfl
  | x :: s, k, hl, hin => by
    rw [List.length_cons] at hl
    have hi := fld_is s (k + 1) (by omega) (fun y hy => hin y (by simp [hy]))
    by_cases h0 : x = 0
    · rw [fldF, if_pos h0, List.nil_append]
      exact isT_weak (by omega) hi
    · rw [fldF, if_neg h0, List.singleton_append, isT, Bool.and_eq_true]
      have hx := hin x (by simp)
      have := size_in (n := x.toNat) (by have := hx.2; have := hx.1; omega)
      exact ⟨(okTf_iff _ _ _).2 ⟨by show (k : Int) < ((k + 1 : Nat) : Int); omega, by show ((k + 1 : Nat) : Int) ≤ 255; omega, by rw [numB_len]; omega⟩, hi⟩
theorem set_far (p : List Int) (g n : Nat) (x : Int) : (p ++ List.replicate (g + (n + 1)) 0).set (p.length + g) x = (p ++ List.replicate g 0 ++ [x]) ++ List.replicate n 0 := by
  have h := set_next (p ++ List.replicate g 0) n x
  rw [List.length_append, List.length_replicate, List.append_assoc p, List.replicate_append_replicate] at h
  exact h
theorem fld_fill : ∀ (l : List Tf) (p a : List Int), p.length ≤ 13 → isT (p.length : Int) l = true → (∀ f ∈ l, ∀ x ∈ f.val, x < 256) → fdFill (p ++ List.replicate (13 - p.length) 0) l = (0, a) →
    ∃ s, a = p ++ s ∧ s.length = 13 - p.length ∧ l = fldF (p.length + 1) s ∧ ∀ x ∈ s, In56 x
  | [], p, a, hp, _, _, h => by
    rw [fdFill] at h
    cases h
    refine ⟨_, rfl, by simp, ?_, ?_⟩
    · have := fldF_zeros (13 - p.length) (p.length + 1) []
      rw [List.append_nil] at this
      rw [this]; rfl
    · intro x hx
      rw [List.eq_of_mem_replicate hx]
      exact ⟨by omega, by omega⟩
  | f :: l, p, a, hp, hi, hb, h => by
    simp only [isT, Bool.and_eq_true] at hi
    obtain ⟨i1, i2, i3⟩ := (okTf_iff _ _ _).1 hi.1
    rw [fdFill] at h
    by_cases h1 : 128 ≤ f.tag
    · rw [if_pos h1] at h; cases h
    rw [if_neg h1] at h
    by_cases h2 : 13 < f.tag
    · rw [if_pos h2] at h; cases h
    rw [if_neg h2] at h
    by_cases h3 : (valT f.val).2 ≠ 0
    · rw [if_pos h3] at h; exact absurd (Prod.mk.inj h).1 h3
    rw [if_neg h3] at h
    obtain ⟨v, hv⟩ : ∃ v, valT f.val = (v, 0) := ⟨(valT f.val).1, by have h4 : (valT f.val).2 = 0 := by omega
                                                                     rw [← h4]⟩
    rw [hv] at h
    obtain ⟨v1, v2, v3⟩ := num_valT (hb f (by simp)) hv
    obtain ⟨t, ht⟩ : ∃ t : Nat, f.tag = (t : Int) := ⟨f.tag.toNat, by omega⟩
    obtain ⟨g, hg⟩ : ∃ g, t = p.length + g + 1 := ⟨t - p.length - 1, by omega⟩
    have hz : 13 - p.length = g + ((13 - t) + 1) := by omega
    rw [ht, Int.toNat_natCast, show t - 1 = p.length + g by omega, hz, set_far] at h
    have hpl : (p ++ List.replicate g 0 ++ [((v : Nat) : Int)]).length = t := by simp; omega
    have hr := fld_fill l (p ++ List.replicate g 0 ++ [((v : Nat) : Int)]) a (by omega) (by rw [hpl, ← ht]; exact hi.2) (fun q hq => hb q (by simp [hq])) (by rw [hpl]; exact h)
    rw [hpl] at hr
    obtain ⟨s, e1, e2, e3, e4⟩ := hr
    refine ⟨List.replicate g 0 ++ ((v : Nat) : Int) :: s, by rw [e1]; simp, by simp; omega, ?_, ?_⟩
    · rw [fldF_zeros, fldF, if_neg (by omega), List.singleton_append]
      have : p.length + 1 + g = t := by omega
      rw [this, ← e3, Int.toNat_natCast, v3, ← ht]
    · intro x hx
      rw [List.mem_append, List.mem_cons] at hx
      rcases hx with hx | rfl | hx
      · rw [List.eq_of_mem_replicate hx]; exact ⟨by omega, by omega⟩
      · exact ⟨by omega, by omega⟩
      · exact e4 x hx
theorem list_13 {a : List Int} (h : a.length = 13) : a = numL (rdL a) := by
  match a, h with
  | [a0, a1, a2, a3, a4, a5, a6, a7, a8, a9, a10, a11, a12], _ => rfl
theorem numL_rd (r : Rg) (h1 : r.left = 0) (h2 : r.inn = 0) : rdL (numL r) = r := by
  obtain ⟨⟨a0, a1, a2, a3, a4, a5, a6, a7, a8, a9, a10⟩, a11, a12, a13, a14⟩ := r
  simp only at h1 h2
  subst h1 h2
  rfl
theorem numL_len (r : Rg) : (numL r).length = 13 := rfl
theorem isN_in {n : Int} (h : isN n = true) : 0 ≤ n ∧ n ≤ 1000 := by
  simp [isN] at h
  omega
theorem num_in {r : Rg} (h : argF r = true) : ∀ x ∈ numL (cutU r), 0 ≤ x ∧ x ≤ 1099511627776 := by
  obtain ⟨h1, h2, h3, h4, h5, h6, h7⟩ := (argF_iff r).1 h
  have hn := (numsB_iff r.t).1 ((okT_iff r.t).1 h1).1
  have hd := (daysB_iff r.t).1 ((okT_iff r.t).1 h1).2.1
  have hu := uses_of h1
  have hp : (0 ≤ r.t.frm ∧ r.t.frm ≤ 1000) ∧ (0 ≤ r.t.till ∧ r.t.till ≤ 1000) := by
    by_cases hk : r.t.kind = 3
    · have := zones_of h1 hk
      omega
    · obtain ⟨w1, w2, _⟩ := way_of h1 hk
      exact ⟨isN_in w1, isN_in w2⟩
  intro x hx
  unfold cutU at hx
  by_cases hk : r.t.kind = 4
  · rw [if_pos hk] at hx
    have := hu.1 hk
    simp only [numL, List.mem_cons, List.not_mem_nil, or_false] at hx
    omega
  · rw [if_neg hk] at hx
    simp only [numL, List.mem_cons, List.not_mem_nil, or_false] at hx
    omega
theorem cut_ver (r : Rg) : (cutU r).ver = r.ver := by unfold cutU; split <;> rfl
theorem cut_left (r : Rg) : (cutU r).left = r.left := by unfold cutU; split <;> rfl
theorem cut_inn (r : Rg) : (cutU r).inn = r.inn := by unfold cutU; split <;> rfl
theorem cut_key (r : Rg) : (cutU r).key = r.key := by unfold cutU; split <;> rfl
theorem cut_kind (r : Rg) : (cutU r).t.kind = r.t.kind := by unfold cutU; split <;> rfl
theorem set_ver (r : Rg) : (setU r).ver = r.ver := by unfold setU; split <;> rfl
theorem set_left (r : Rg) : (setU r).left = r.left := by unfold setU; split <;> rfl
theorem set_inn (r : Rg) : (setU r).inn = r.inn := by unfold setU; split <;> rfl
theorem set_key (r : Rg) : (setU r).key = r.key := by unfold setU; split <;> rfl
theorem set_kind (r : Rg) : (setU r).t.kind = r.t.kind := by unfold setU; split <;> rfl
theorem set_cut {r : Rg} (h : okT r.t = true) : setU (cutU r) = r := by
  have hu := uses_of h
  unfold setU
  rw [cut_kind]
  unfold cutU
  by_cases hk : r.t.kind = 4
  · rw [if_pos hk, if_pos hk]
  · rw [if_neg hk, if_neg hk]
    have := hu.2 hk
    obtain ⟨⟨a0, a1, a2, a3, a4, a5, a6, a7, a8, a9, a10⟩, a11, a12, a13, a14⟩ := r
    simp only at this ⊢
    rw [this]
theorem cut_set {r : Rg} (h : r.t.kind = 4 ∨ r.t.uses = 0) : cutU (setU r) = r := by
  unfold cutU
  rw [set_kind]
  unfold setU
  by_cases hk : r.t.kind = 4
  · rw [if_pos hk, if_pos hk]
  · rw [if_neg hk, if_neg hk]
    have hu : r.t.uses = 0 := by omega
    obtain ⟨⟨a0, a1, a2, a3, a4, a5, a6, a7, a8, a9, a10⟩, a11, a12, a13, a14⟩ := r
    simp only at hu ⊢
    rw [hu]
theorem cut_uses (r : Rg) : (cutU r).t.kind = 4 ∨ (cutU r).t.uses = 0 := by
  rw [cut_kind]
  unfold cutU
  by_cases hk : r.t.kind = 4
  · exact .inl hk
  · rw [if_neg hk]; exact .inr rfl
theorem fdPut_arg {r : Rg} (h : argF r = false) : fdPut r = (1, []) := by rw [fdPut, if_pos h]
theorem fdPut_fit {r : Rg} (h : argF r = true) (h2 : fitX r.ver (tagsF 1 (numL (cutU r))) = false) : fdPut r = (18, []) := by rw [fdPut, if_neg (by rw [h]; decide), if_pos h2]
theorem fdPut_ok {r : Rg} (h : argF r = true) (h2 : fitX r.ver (tagsF 1 (numL (cutU r))) = true) : fdPut r = (0, fldF 1 (numL (cutU r))) := by rw [fdPut, if_neg (by rw [h]; decide), if_neg (by rw [h2]; decide)]
theorem fdPut_zero {r : Rg} {l : List Tf} (h : fdPut r = (0, l)) : argF r = true ∧ fitX r.ver (tagsF 1 (numL (cutU r))) = true ∧ l = fldF 1 (numL (cutU r)) := by
  cases h1 : argF r with
  | false => rw [fdPut_arg h1] at h; cases h
  | true =>
    cases h2 : fitX r.ver (tagsF 1 (numL (cutU r))) with
    | false => rw [fdPut_fit h1 h2] at h; cases h
    | true => rw [fdPut_ok h1 h2] at h; exact ⟨rfl, rfl, ((Prod.mk.inj h).2).symm⟩
theorem fdFill_z (l : List Tf) : fdFill z13 l = fdFill ([] ++ List.replicate (13 - ([] : List Int).length) 0) l := rfl
theorem get_put {r : Rg} {l : List Tf} (h : fdPut r = (0, l)) : isT 0 l = true ∧ fdGet l = (0, r) ∧ l.length ≤ 13 := by
  obtain ⟨h1, h2, h3⟩ := fdPut_zero h
  obtain ⟨a1, a2, a3, a4, a5, a6, a7⟩ := (argF_iff r).1 h1
  have hin : ∀ x ∈ numL (cutU r), In56 x := fun x hx => by have := num_in h1 x hx; exact ⟨this.1, by omega⟩
  have hi : isT 0 l = true := by rw [h3]; exact fld_is (numL (cutU r)) 0 (by rw [numL_len]; omega) hin
  have hf : fdFill z13 l = (0, numL (cutU r)) := by rw [h3]; exact fill_fld (numL (cutU r)) [] (by rw [numL_len]; rfl) hin
  have hr : rdL (numL (cutU r)) = cutU r := numL_rd _ (by rw [cut_left]; exact a4) (by rw [cut_inn]; exact a5)
  have hv : (numL (cutU r)).getD 0 0 = r.ver := cut_ver r
  refine ⟨hi, ?_, by rw [h3, fldF_len]; exact Nat.le_trans (tagsF_len _ _) (by rw [numL_len]; omega)⟩
  rw [fdGet, if_neg (by rw [hi]; decide), hf, if_neg (by simp), fdTold]
  have e1 : verX (numL (cutU r)) = true := by rw [verX, hv, h2]; simp; omega
  have e2 : rightF (rdL (numL (cutU r))) = true := by
    rw [hr, rightF, set_cut a1, a1, cut_key]
    have := cut_uses r
    simp
    exact ⟨this, a3⟩
  simp only [e1, e2, Bool.true_eq_false, if_false]
  rw [hr, set_cut a1]
theorem fdGet_zero {l : List Tf} {r : Rg} (h : fdGet l = (0, r)) : isT 0 l = true ∧ ∃ a, fdFill z13 l = (0, a) ∧ verX a = true ∧ rightF (rdL a) = true ∧ r = setU (rdL a) := by
  cases h1 : isT 0 l with
  | false => rw [fdGet, if_pos h1] at h; cases h
  | true =>
    rw [fdGet, if_neg (by rw [h1]; decide)] at h
    by_cases h2 : (fdFill z13 l).1 ≠ 0
    · rw [if_pos h2] at h; exact absurd (Prod.mk.inj h).1 h2
    · rw [if_neg h2] at h
      refine ⟨rfl, (fdFill z13 l).2, by have : (fdFill z13 l).1 = 0 := by omega
                                        rw [← this], ?_⟩
      generalize (fdFill z13 l).2 = a at h
      rw [fdTold] at h
      cases h3 : verX a with
      | false => rw [if_pos h3] at h; cases h
      | true =>
        rw [if_neg (by rw [h3]; decide)] at h
        cases h4 : rightF (rdL a) with
        | false => rw [if_pos h4] at h; cases h
        | true =>
          rw [if_neg (by rw [h4]; decide)] at h
          exact ⟨rfl, rfl, ((Prod.mk.inj h).2).symm⟩
theorem fdGet_bad {l : List Tf} {r : Rg} {E : Nat} (h : fdGet l = (E, r)) (h0 : E ≠ 0) : r = zeroR := by
  rw [fdGet] at h
  split at h
  · exact ((Prod.mk.inj h).2).symm
  · split at h
    · exact ((Prod.mk.inj h).2).symm
    · rw [fdTold] at h
      split at h
      · exact ((Prod.mk.inj h).2).symm
      · split at h
        · exact ((Prod.mk.inj h).2).symm
        · exact absurd (Prod.mk.inj h).1.symm h0
theorem put_get {l : List Tf} {r : Rg} (hb : ∀ f ∈ l, ∀ x ∈ f.val, x < 256) (h : fdGet l = (0, r)) : fdPut r = (0, l) ∧ okT r.t = true := by
  obtain ⟨h1, a, h2, h3, h4, h5⟩ := fdGet_zero h
  rw [fdFill_z] at h2
  obtain ⟨s, e1, e2, e3, e4⟩ := fld_fill l [] a (by decide) h1 hb h2
  rw [List.nil_append] at e1
  subst e1
  have hl : a.length = 13 := e2
  have ha := list_13 hl
  simp [rightF] at h4
  obtain ⟨k1, k2, k3⟩ := h4
  have hc : cutU r = rdL a := by rw [h5]; exact cut_set k1
  have hn : numL (cutU r) = a := by rw [hc]; exact ha.symm
  have hv : r.ver = a.getD 0 0 := by rw [h5, set_ver]; rfl
  have ho : okT r.t = true := by rw [h5]; exact k3
  simp [verX] at h3
  obtain ⟨v1, v2, v3⟩ := h3
  have hk : In56 (rdL a).key := e4 _ (by rw [ha]; exact List.mem_of_getElem? (i := 1) rfl)
  refine ⟨?_, ho⟩
  rw [fdPut_ok ((argF_iff r).2 ⟨ho, by rw [h5, set_key]; exact hk.1, by rw [h5, set_key]; exact k2, by rw [h5, set_left]; rfl, by rw [h5, set_inn]; rfl, by rw [hv]; simpa using v1, by rw [hv]; simpa using v2⟩) (by rw [hn, hv]; simpa using v3), hn]
  rw [show fldF 1 a = l from e3.symm]
end Go.Proofs.YtcnglbliidjnfaaGreatDoor
end
section
namespace Go.Proofs.YtcnglbliidjnfaaGreatDoor
set_option linter.unusedVariables false

def signL : List Nat := [48, 49, 50, 51, 52, 53, 54, 55, 56, 57, 65, 66, 67, 68, 69, 70, 71, 72, 73, 74, 75, 76, 77, 78, 79, 80, 81, 82, 83, 84, 85, 86, 87, 88, 89, 90, 32, 36, 37, 42, 43, 45, 46, 47, 58]
def sg (n : Nat) : Nat := signL.getD n 0
def vlIn : List Nat → Nat → Nat
  | [], _ => 0
  | x :: l, c => if x = c then 0 else vlIn l c + 1
def vl (c : Nat) : Nat := vlIn signL c
theorem sg_lt' : ∀ n, n < 46 → sg n < 256 := by decide
set_option maxRecDepth 100000 in
theorem vl_sg : ∀ n, n < 45 → vl (sg n) = n := by decide
theorem sg_big {n : Nat} (h : 45 ≤ n) : sg n = 0 := by unfold sg; rw [List.getD_eq_getElem?_getD, List.getElem?_eq_none h]; rfl
theorem sg_lt (n : Nat) : sg n < 256 := by
  rcases Nat.lt_or_ge n 46 with h | h
  · exact sg_lt' n h
  · rw [sg_big (by omega)]; omega
theorem vlIn_le : ∀ (l : List Nat) (c : Nat), vlIn l c ≤ l.length
  | [], _ => Nat.le_refl _
  | x :: l, c => by
    rw [vlIn, List.length_cons]
    have := vlIn_le l c
    split <;> omega
theorem vl_le (c : Nat) : vl c ≤ 45 := vlIn_le signL c
theorem vlIn_at : ∀ (l : List Nat) (c : Nat), vlIn l c < l.length → l[vlIn l c]? = some c
  | [], c, h => by simp [vlIn] at h
  | x :: l, c, h => by
    rw [vlIn] at h ⊢
    by_cases e : x = c
    · rw [if_pos e, e]; rfl
    · rw [if_neg e] at h ⊢
      rw [List.getElem?_cons_succ]
      exact vlIn_at l c (by rw [List.length_cons] at h; omega)
theorem vlIn_before : ∀ (l : List Nat) (c i : Nat), i < vlIn l c → l[i]? ≠ some c
  | [], c, i, h => by simp [vlIn] at h
  | x :: l, c, i, h => by
    rw [vlIn] at h
    by_cases e : x = c
    · rw [if_pos e] at h; omega
    · rw [if_neg e] at h
      cases i with
      | zero => simpa using e
      | succ i => rw [List.getElem?_cons_succ]; exact vlIn_before l c i (by omega)
theorem sg_vl {c : Nat} (h : vl c < 45) : sg (vl c) = c := by
  have := vlIn_at signL c h
  unfold sg vl
  rw [List.getD_eq_getElem?_getD, this]; rfl
theorem vl_found {c i : Nat} (hi : i < 45) (hb : i ≤ vl c) (h : sg i = c) : vl c = i := by
  rcases Nat.lt_or_ge i (vl c) with h1 | h1
  · exact absurd (by unfold sg at h; rw [List.getD_eq_getElem?_getD] at h; rw [List.getElem?_eq_getElem (show i < signL.length from hi)] at h ⊢; exact congrArg some h) (vlIn_before signL c i h1)
  · omega
theorem vl_next {c i : Nat} (hi : i < 45) (hb : i ≤ vl c) (h : sg i ≠ c) : i + 1 ≤ vl c := by
  rcases Nat.lt_or_ge i (vl c) with h1 | h1
  · omega
  · exact absurd (by have : vl c = i := by omega
                     rw [← this]; exact sg_vl (by omega)) h

def put3 (n : Nat) : List Nat := [sg (n % 45), sg (n / 45 % 45), sg (n / 2025)]
def put2 (n : Nat) : List Nat := [sg (n % 45), sg (n / 45)]
def putG : List Nat → List Nat
  | [a, b] => put3 (a * 256 + b)
  | [a] => put2 a
  | _ => []
def putF : List Nat → List Nat
  | a :: b :: r => put3 (a * 256 + b) ++ putF r
  | [a] => put2 a
  | [] => []
theorem put3_len (n : Nat) : (put3 n).length = 3 := rfl
theorem put3_lt (n : Nat) : ∀ x ∈ put3 n, x < 256 := by
  intro x hx
  simp only [put3, List.mem_cons, List.not_mem_nil, or_false] at hx
  rcases hx with rfl | rfl | rfl <;> exact sg_lt _
theorem put2_lt (n : Nat) : ∀ x ∈ put2 n, x < 256 := by
  intro x hx
  simp only [put2, List.mem_cons, List.not_mem_nil, or_false] at hx
  rcases hx with rfl | rfl <;> exact sg_lt _
theorem putF_lt : ∀ (l : List Nat), ∀ x ∈ putF l, x < 256
  | [], x, hx => by simp [putF] at hx
  | [a], x, hx => put2_lt a x hx
  | a :: b :: r, x, hx => by
    rw [putF, List.mem_append] at hx
    exact hx.elim (put3_lt _ x) (putF_lt r x)
theorem putF_len : ∀ (l : List Nat), (putF l).length = l.length / 2 * 3 + l.length % 2 * 2
  | [] => rfl
  | [a] => by simp [putF, put2]
  | a :: b :: r => by
    rw [putF, List.length_append, put3_len, putF_len r, List.length_cons, List.length_cons]
    omega
theorem putF_append : ∀ (a b : List Nat), a.length % 2 = 0 → putF (a ++ b) = putF a ++ putF b
  | [], b, _ => rfl
  | [x], b, h => by simp at h
  | x :: y :: r, b, h => by
    rw [List.cons_append, List.cons_append, putF, putF, List.append_assoc, putF_append r b (by simp only [List.length_cons] at h; omega)]
def fokS (c : Nat) : Bool := decide (vl c < 45)
def val2 (x y : Nat) : Nat := vl x + 45 * vl y
def val3 (x y z : Nat) : Nat := vl x + 45 * vl y + 2025 * vl z
def getG : List Nat → Nat × List Nat
  | [x, y] => if (fokS x && fokS y) = false then (7, []) else if 255 < val2 x y then (23, []) else (0, [val2 x y])
  | [x, y, z] => if (fokS x && fokS y && fokS z) = false then (7, []) else if 65535 < val3 x y z then (23, []) else (0, [val3 x y z / 256, val3 x y z % 256])
  | _ => (0, [])
def thenG (p q : Nat × List Nat) : Nat × List Nat := if p.1 ≠ 0 then (p.1, []) else if q.1 ≠ 0 then (q.1, []) else (0, p.2 ++ q.2)
def fgetR : List Nat → Nat × List Nat
  | x :: y :: z :: r => thenG (getG [x, y, z]) (fgetR r)
  | [x, y] => getG [x, y]
  | [_] => (0, [])
  | [] => (0, [])
def fgetX (l : List Nat) : Nat × List Nat := if l.length % 3 = 1 then (14, []) else fgetR l
theorem thenG_bad {p : Nat × List Nat} (h : p.1 ≠ 0) (q : Nat × List Nat) : thenG p q = (p.1, []) := by unfold thenG; rw [if_pos h]
theorem thenG_assoc (p q r : Nat × List Nat) : thenG (thenG p q) r = thenG p (thenG q r) := by
  obtain ⟨e, l⟩ := p
  obtain ⟨f, m⟩ := q
  obtain ⟨g, k⟩ := r
  unfold thenG
  by_cases h0 : e ≠ 0
  · simp [h0]
  · by_cases h1 : f ≠ 0
    · simp [h0, h1]
    · by_cases h2 : g ≠ 0
      · simp [h0, h1, h2]
      · simp [h0, h1, h2]
theorem getR_append : ∀ (a b : List Nat), a.length % 3 = 0 → fgetR (a ++ b) = thenG (fgetR a) (fgetR b)
  | [], b, _ => by
    rw [List.nil_append, show fgetR [] = (0, []) from rfl]
    unfold thenG
    obtain ⟨e, l⟩ : ∃ e, e = fgetR b := ⟨_, rfl⟩
    rw [← l]
    by_cases h : e.1 ≠ 0
    · rw [if_neg (by simp), if_pos h]
      rw [l] at h ⊢
      exact getR_nil b h
    · rw [if_neg (by simp), if_neg h]
      simp only [List.nil_append]
      exact Prod.ext (by show e.1 = 0; omega) rfl
  | [x], b, h => by simp at h
  | [x, y], b, h => by simp at h
  | x :: y :: z :: r, b, h => by
    rw [List.cons_append, List.cons_append, List.cons_append, fgetR, fgetR, getR_append r b (by simp only [List.length_cons] at h; omega), thenG_assoc]
where getR_nil : ∀ (l : List Nat), (fgetR l).1 ≠ 0 → fgetR l = ((fgetR l).1, [])
  | [], h => rfl
  | [x], h => rfl
  | [x, y], h => by
    rw [fgetR, getG] at h ⊢
    split at h
    · rename_i e; rw [if_pos e]
    · rename_i e
      rw [if_neg e] 
      split at h
      · rename_i e2; rw [if_pos e2]
      · simp at h
  | x :: y :: z :: r, h => by
    rw [fgetR] at h ⊢
    unfold thenG at h ⊢
    split at h
    · rename_i e; rw [if_pos e]
    · rename_i e
      rw [if_neg e]
      split at h
      · rename_i e2; rw [if_pos e2]
      · simp at h
theorem okS_sg {n : Nat} (h : n < 45) : fokS (sg n) = true := by unfold fokS; rw [vl_sg n h]; simpa using h
theorem getG_put3 {a b : Nat} (ha : a < 256) (hb : b < 256) : getG (put3 (a * 256 + b)) = (0, [a, b]) := by
  obtain ⟨n, hn⟩ : ∃ n, n = a * 256 + b := ⟨_, rfl⟩
  have h1 : n < 65536 := by omega
  have e : val3 (sg (n % 45)) (sg (n / 45 % 45)) (sg (n / 2025)) = n := by
    unfold val3
    rw [vl_sg _ (by omega), vl_sg _ (by omega), vl_sg _ (by omega)]
    omega
  rw [← hn, put3, getG, okS_sg (by omega), okS_sg (by omega), okS_sg (by omega), e, if_neg (by simp), if_neg (by omega)]
  have e1 : n / 256 = a := by omega
  have e2 : n % 256 = b := by omega
  rw [e1, e2]
theorem getG_put2 {a : Nat} (ha : a < 256) : getG (put2 a) = (0, [a]) := by
  have e : val2 (sg (a % 45)) (sg (a / 45)) = a := by
    unfold val2
    rw [vl_sg _ (by omega), vl_sg _ (by omega)]
    omega
  rw [put2, getG, okS_sg (by omega), okS_sg (by omega), e, if_neg (by simp), if_neg (by omega)]
theorem getR_putF : ∀ (l : List Nat), (∀ x ∈ l, x < 256) → fgetR (putF l) = (0, l)
  | [], _ => rfl
  | [a], h => getG_put2 (h a (by simp))
  | a :: b :: r, h => by
    rw [putF, getR_append _ _ (by rw [put3_len]), getR_putF r (fun x hx => h x (by simp [hx]))]
    have : fgetR (put3 (a * 256 + b)) = (0, [a, b]) := by
      rw [put3, fgetR, show fgetR [] = (0, []) from rfl]
      have := getG_put3 (h a (by simp)) (h b (by simp))
      rw [put3] at this
      rw [this]; rfl
    rw [this]
    rfl
theorem getX_putF {l : List Nat} (h : ∀ x ∈ l, x < 256) : fgetX (putF l) = (0, l) := by
  unfold fgetX
  rw [if_neg (by rw [putF_len]; omega), getR_putF l h]
theorem okS_lt {c : Nat} (h : fokS c = true) : vl c < 45 := of_decide_eq_true h
theorem putF_getG3 {x y z : Nat} {d : List Nat} (h : getG [x, y, z] = (0, d)) : ∃ a b, d = [a, b] ∧ put3 (a * 256 + b) = [x, y, z] ∧ a < 256 ∧ b < 256 := by
  rw [getG] at h
  split at h
  · cases h
  · rename_i h1
    split at h
    · cases h
    · rename_i h2
      have h3 : (fokS x && fokS y && fokS z) = true := by cases hh : (fokS x && fokS y && fokS z) with | true => rfl | false => exact absurd hh h1
      rw [Bool.and_eq_true, Bool.and_eq_true] at h3
      obtain ⟨⟨k1, k2⟩, k3⟩ := h3
      have v1 := okS_lt k1
      have v2 := okS_lt k2
      have v3 := okS_lt k3
      have hd : [val3 x y z / 256, val3 x y z % 256] = d := (Prod.mk.inj h).2
      refine ⟨_, _, hd.symm, ?_, by omega, by omega⟩
      have e : val3 x y z / 256 * 256 + val3 x y z % 256 = val3 x y z := by omega
      rw [e, put3]
      unfold val3
      have e1 : (vl x + 45 * vl y + 2025 * vl z) % 45 = vl x := by omega
      have e2 : (vl x + 45 * vl y + 2025 * vl z) / 45 % 45 = vl y := by omega
      have e3 : (vl x + 45 * vl y + 2025 * vl z) / 2025 = vl z := by omega
      rw [e1, e2, e3, sg_vl v1, sg_vl v2, sg_vl v3]
theorem putF_getG2 {x y : Nat} {d : List Nat} (h : getG [x, y] = (0, d)) : ∃ a, d = [a] ∧ put2 a = [x, y] ∧ a < 256 := by
  rw [getG] at h
  split at h
  · cases h
  · rename_i h1
    split at h
    · cases h
    · rename_i h2
      have h3 : (fokS x && fokS y) = true := by simpa using h1
      rw [Bool.and_eq_true] at h3
      obtain ⟨k1, k2⟩ := h3
      have v1 := okS_lt k1
      have v2 := okS_lt k2
      have hd : [val2 x y] = d := (Prod.mk.inj h).2
      refine ⟨_, hd.symm, ?_, by omega⟩
      rw [put2]
      unfold val2
      have e1 : (vl x + 45 * vl y) % 45 = vl x := by omega
      have e2 : (vl x + 45 * vl y) / 45 = vl y := by omega
      rw [e1, e2, sg_vl v1, sg_vl v2]
theorem thenG_zero {p q : Nat × List Nat} {d : List Nat} (h : thenG p q = (0, d)) : p.1 = 0 ∧ q.1 = 0 ∧ d = p.2 ++ q.2 := by
  unfold thenG at h
  split at h
  · rename_i h1; exact absurd (Prod.mk.inj h).1 h1
  · split at h
    · rename_i h1; exact absurd (Prod.mk.inj h).1 h1
    · exact ⟨by omega, by omega, (Prod.mk.inj h).2.symm⟩
theorem putF_getR : ∀ (l d : List Nat), l.length % 3 ≠ 1 → fgetR l = (0, d) → putF d = l ∧ ∀ x ∈ d, x < 256
  | [], d, _, h => by
    rw [show d = [] from (Prod.mk.inj h).2.symm]
    exact ⟨rfl, by simp⟩
  | [x], d, h1, _ => by simp at h1
  | [x, y], d, _, h => by
    obtain ⟨a, rfl, h2, h3⟩ := putF_getG2 h
    exact ⟨h2, by simpa using h3⟩
  | x :: y :: z :: r, d, h1, h => by
    rw [fgetR] at h
    obtain ⟨h2, h3, rfl⟩ := thenG_zero h
    obtain ⟨a, b, hd, hp, ha, hb⟩ := putF_getG3 (x := x) (y := y) (z := z) (d := (getG [x, y, z]).2) (Prod.ext h2 rfl)
    obtain ⟨k1, k2⟩ := putF_getR r (fgetR r).2 (by simp only [List.length_cons] at h1; omega) (Prod.ext h3 rfl)
    rw [hd]
    refine ⟨?_, ?_⟩
    · rw [List.cons_append, List.cons_append, List.nil_append, putF, hp, k1]; rfl
    · intro u hu
      simp only [List.cons_append, List.nil_append, List.mem_cons] at hu
      rcases hu with rfl | rfl | hu
      · exact ha
      · exact hb
      · exact k2 u hu
theorem putF_getX {l d : List Nat} (h : fgetX l = (0, d)) : putF d = l ∧ ∀ x ∈ d, x < 256 := by
  unfold fgetX at h
  split at h
  · cases h
  · rename_i h1; exact putF_getR l d h1 h
theorem getX_bad {l d : List Nat} {e : Nat} (h : fgetX l = (e, d)) (he : e ≠ 0) : d = [] := by
  unfold fgetX at h
  split at h
  · exact (Prod.mk.inj h).2.symm
  · have h2 : (fgetR l).1 ≠ 0 := by rw [h]; exact he
    rw [getR_append.getR_nil l h2] at h
    exact (Prod.mk.inj h).2.symm
theorem getX_lt {l d : List Nat} {e : Nat} (h : fgetX l = (e, d)) : ∀ x ∈ d, x < 256 := by
  by_cases he : e = 0
  · subst he; exact (putF_getX h).2
  · rw [getX_bad h he]; simp
end Go.Proofs.YtcnglbliidjnfaaGreatDoor
end
section
namespace Go.Proofs.YtcnglbliidjnfaaGreatDoor

structure K where
  id : Int
  sec : List Nat
  frm : Int
  til : Int
def K0 : K := ⟨0, [], 0, 0⟩
def rightN (id : Int) (n : Nat) (f t : Int) : Bool := decide (0 ≤ id) && (decide (id ≤ 99) && (decide (1 ≤ n) && (decide (n ≤ 64) && (decide (0 ≤ f) && (decide (f ≤ t) && decide (t ≤ 99999))))))
def K.right (k : K) : Bool := rightN k.id k.sec.length k.frm k.til
theorem rightN_iff (id : Int) (n : Nat) (f t : Int) : rightN id n f t = true ↔ 0 ≤ id ∧ id ≤ 99 ∧ 1 ≤ n ∧ n ≤ 64 ∧ 0 ≤ f ∧ f ≤ t ∧ t ≤ 99999 := by simp [rightN]
end Go.Proofs.YtcnglbliidjnfaaGreatDoor
end
section
namespace Go.Proofs.YtcnglbliidjnfaaGreatDoor

def threeN (x i j k : Nat) : Nat := itr i x ^^^ itr j x ^^^ itr k x
def twoN (x i j d : Nat) : Nat := itr i x ^^^ itr j x ^^^ x / d
def pk (e f g : Nat) : Nat → Nat
  | 0 => 0
  | i + 1 => pk e f g i + (if e / 2 ^ i % 2 = 1 then f else g) / 2 ^ i % 2 * 2 ^ i
def mj (a b c : Nat) : Nat → Nat
  | 0 => 0
  | i + 1 => mj a b c i + if 2 ≤ a / 2 ^ i % 2 + b / 2 ^ i % 2 + c / 2 ^ i % 2 then 2 ^ i else 0

theorem xor_lt32 {a b : Nat} (ha : a < 4294967296) (hb : b < 4294967296) : a ^^^ b < 4294967296 := Nat.xor_lt_two_pow (n := 32) ha hb
theorem sbit_le (x i : Nat) : x / 2 ^ i % 2 ≤ 1 := by omega
theorem pk_lt (e f g n : Nat) : pk e f g n < 2 ^ n := by
  induction n with
  | zero => simp [pk]
  | succ n ih =>
    have h := sbit_le (if e / 2 ^ n % 2 = 1 then f else g) n
    have h2 : (if e / 2 ^ n % 2 = 1 then f else g) / 2 ^ n % 2 * 2 ^ n ≤ 1 * 2 ^ n := Nat.mul_le_mul_right _ h
    rw [pk, Nat.pow_succ]
    omega
theorem mj_lt (a b c n : Nat) : mj a b c n < 2 ^ n := by
  induction n with
  | zero => simp [mj]
  | succ n ih =>
    rw [mj, Nat.pow_succ]
    split <;> omega

theorem testBit_top (x b n j : Nat) (hx : x < 2 ^ n) (hb : b ≤ 1) : (x + b * 2 ^ n).testBit j = if j < n then x.testBit j else if j = n then decide (b = 1) else false := by
  rw [Nat.add_comm, Nat.mul_comm, Nat.testBit_two_pow_mul_add b hx j]
  split
  · rfl
  · next h =>
    rcases (show b = 0 ∨ b = 1 by omega) with rfl | rfl
    · simp
    · by_cases e : j = n
      · subst e; simp
      · obtain ⟨k, hk⟩ : ∃ k, j - n = k + 1 := ⟨j - n - 1, by omega⟩
        rw [if_neg e, hk, Nat.testBit_succ]
        simp
theorem bit_test (x i : Nat) : decide (x / 2 ^ i % 2 = 1) = x.testBit i := by
  rw [Nat.testBit_eq_decide_div_mod_eq]

theorem testBit_pk (e f g n j : Nat) : (pk e f g n).testBit j = (decide (j < n) && (if e.testBit j then f.testBit j else g.testBit j)) := by
  induction n with
  | zero => simp [pk]
  | succ n ih =>
    rw [pk, testBit_top _ _ _ _ (pk_lt e f g n) (sbit_le _ _), ih]
    by_cases h : j < n
    · simp [h, show j < n + 1 by omega]
    · rw [if_neg h]
      by_cases h2 : j = n
      · subst h2
        rw [if_pos rfl, bit_test]
        simp only [← bit_test e j]
        by_cases h3 : e / 2 ^ j % 2 = 1 <;> simp [h3]
      · rw [if_neg h2]
        simp [show ¬ j < n + 1 by omega]
theorem testBit_mj (a b c n j : Nat) : (mj a b c n).testBit j = (decide (j < n) && ((a.testBit j && b.testBit j) || (a.testBit j && c.testBit j) || (b.testBit j && c.testBit j))) := by
  induction n with
  | zero => simp [mj]
  | succ n ih =>
    have e : (if 2 ≤ a / 2 ^ n % 2 + b / 2 ^ n % 2 + c / 2 ^ n % 2 then 2 ^ n else 0) = (if 2 ≤ a / 2 ^ n % 2 + b / 2 ^ n % 2 + c / 2 ^ n % 2 then 1 else 0) * 2 ^ n := by split <;> simp
    rw [mj, e, testBit_top _ _ _ _ (mj_lt a b c n) (by split <;> omega), ih]
    by_cases h : j < n
    · simp [h, show j < n + 1 by omega]
    · rw [if_neg h]
      by_cases h2 : j = n
      · subst h2
        rw [if_pos rfl, ← bit_test a j, ← bit_test b j, ← bit_test c j]
        rcases (show a / 2 ^ j % 2 = 0 ∨ a / 2 ^ j % 2 = 1 by omega) with ha | ha <;> rcases (show b / 2 ^ j % 2 = 0 ∨ b / 2 ^ j % 2 = 1 by omega) with hb | hb <;> rcases (show c / 2 ^ j % 2 = 0 ∨ c / 2 ^ j % 2 = 1 by omega) with hc | hc <;> simp [ha, hb, hc]
      · rw [if_neg h2]
        simp [show ¬ j < n + 1 by omega]
end Go.Proofs.YtcnglbliidjnfaaGreatDoor
end
section
namespace Go.Proofs.YtcnglbliidjnfaaGreatDoor

def kTab : List Nat := [1116352408, 1899447441, 3049323471, 3921009573, 961987163, 1508970993, 2453635748, 2870763221, 3624381080, 310598401, 607225278, 1426881987, 1925078388, 2162078206, 2614888103, 3248222580, 3835390401, 4022224774, 264347078, 604807628, 770255983, 1249150122, 1555081692, 1996064986, 2554220882, 2821834349, 2952996808, 3210313671, 3336571891, 3584528711, 113926993, 338241895, 666307205, 773529912, 1294757372, 1396182291, 1695183700, 1986661051, 2177026350, 2456956037, 2730485921, 2820302411, 3259730800, 3345764771, 3516065817, 3600352804, 4094571909, 275423344, 430227734, 506948616, 659060556, 883997877, 958139571, 1322822218, 1537002063, 1747873779, 1955562222, 2024104815, 2227730452, 2361852424, 2428436474, 2756734187, 3204031479, 3329325298]
theorem length_kTab : kTab.length = 64 := rfl
theorem kTab_lt : ∀ x ∈ kTab, x < 4294967296 := by decide

def wNext (w l : List Nat) (t : Nat) : Nat := if t < 16 then w.getD t 0 else (l.getD (t - 16) 0 + twoN (l.getD (t - 15) 0) 7 18 8 + l.getD (t - 7) 0 + twoN (l.getD (t - 2) 0) 17 19 1024) % 4294967296
def wl (w : List Nat) : Nat → List Nat
  | 0 => []
  | t + 1 => wl w t ++ [wNext w (wl w t) t]
theorem length_wl (w : List Nat) (t : Nat) : (wl w t).length = t := by
  induction t with
  | zero => rfl
  | succ t ih => simp [wl, ih]
theorem wl_lt (w : List Nat) (hw : ∀ x ∈ w, x < 4294967296) (t : Nat) : ∀ x ∈ wl w t, x < 4294967296 := by
  induction t with
  | zero => intro x hx; simp [wl] at hx
  | succ t ih =>
    intro x hx
    rw [wl, List.mem_append, List.mem_singleton] at hx
    rcases hx with hx | rfl
    · exact ih x hx
    · unfold wNext
      split
      · rw [List.getD_eq_getElem?_getD]
        rcases h : w[t]? with _ | y
        · simp
        · exact hw y (List.mem_of_getElem? h)
      · omega

structure St where
  a : Nat
  b : Nat
  c : Nat
  d : Nat
  e : Nat
  f : Nat
  g : Nat
  h : Nat
def St.ok (v : St) : Prop := v.a < 4294967296 ∧ v.b < 4294967296 ∧ v.c < 4294967296 ∧ v.d < 4294967296 ∧ v.e < 4294967296 ∧ v.f < 4294967296 ∧ v.g < 4294967296 ∧ v.h < 4294967296
def St.list (v : St) : List Nat := [v.a, v.b, v.c, v.d, v.e, v.f, v.g, v.h]
def t1N (v : St) (k w : Nat) : Nat := (v.h + threeN v.e 6 11 25 + pk v.e v.f v.g 32 + k + w) % 4294967296
def t2N (v : St) : Nat := (threeN v.a 2 13 22 + mj v.a v.b v.c 32) % 4294967296
def rnd (v : St) (k w : Nat) : St := ⟨(t1N v k w + t2N v) % 4294967296, v.a, v.b, v.c, (v.d + t1N v k w) % 4294967296, v.e, v.f, v.g⟩
def rnds (v : St) (l : List Nat) : Nat → St
  | 0 => v
  | t + 1 => rnd (rnds v l t) (kTab.getD t 0) (l.getD t 0)
def sumSt (v h : St) : St := ⟨(v.a + h.a) % 4294967296, (v.b + h.b) % 4294967296, (v.c + h.c) % 4294967296, (v.d + h.d) % 4294967296, (v.e + h.e) % 4294967296, (v.f + h.f) % 4294967296, (v.g + h.g) % 4294967296, (v.h + h.h) % 4294967296⟩
def blockN (h : St) (w : List Nat) : St := sumSt (rnds h (wl w 64) 64) h
theorem rnd_ok {v : St} (h : v.ok) (k w : Nat) : (rnd v k w).ok := by
  obtain ⟨h1, h2, h3, h4, h5, h6, h7, h8⟩ := h
  exact ⟨Nat.mod_lt _ (by omega), h1, h2, h3, Nat.mod_lt _ (by omega), h5, h6, h7⟩
theorem rnds_ok {v : St} (h : v.ok) (l : List Nat) (t : Nat) : (rnds v l t).ok := by
  induction t with
  | zero => exact h
  | succ t ih => exact rnd_ok ih _ _
theorem sumSt_ok (v h : St) : (sumSt v h).ok := ⟨Nat.mod_lt _ (by omega), Nat.mod_lt _ (by omega), Nat.mod_lt _ (by omega), Nat.mod_lt _ (by omega), Nat.mod_lt _ (by omega), Nat.mod_lt _ (by omega), Nat.mod_lt _ (by omega), Nat.mod_lt _ (by omega)⟩
theorem St.list_lt {v : St} (h : v.ok) : ∀ x ∈ v.list, x < 4294967296 := by
  obtain ⟨h1, h2, h3, h4, h5, h6, h7, h8⟩ := h
  intro x hx
  simp only [St.list, List.mem_cons, List.not_mem_nil, or_false] at hx
  rcases hx with rfl | rfl | rfl | rfl | rfl | rfl | rfl | rfl <;> assumption
end Go.Proofs.YtcnglbliidjnfaaGreatDoor
end
section
namespace Go.Proofs.YtcnglbliidjnfaaGreatDoor
def In64 (x : Int) : Prop := -9223372036854775808 ≤ x ∧ x ≤ 9223372036854775807
end Go.Proofs.YtcnglbliidjnfaaGreatDoor
end

