/-
  What package stripe answers, plainly: the tag, what a reading is encoded as, what a stripe says; that these are one another's, and what a key more changes. No program; conditions: none.
-/
import Derived.Test.YtpniolinndlepaaGreatDoorLayA
import Derived.Test.YtpniolinndlepaaGreatDoorTrackM
import Derived.Test.YtpniolinndlepaaGreatDoorRingB
import Derived.Test.YtpniolinndlepaaGreatDoorShaE
import Derived.Test.YtpniolinndlepaaGreatDoorSealP
namespace Go.Proofs.YtpniolinndlepaaGreatDoor
set_option linter.unusedVariables false

/-- The digits of a stripe's tag. -/
def tagS (s l : List Nat) : List Nat := dec (valB ((tagN s (83 :: l)).take 4))
theorem tagS_len (s l : List Nat) : (tagS s l).length = 10 := length_dec _
theorem tagS_lt (s l : List Nat) : ∀ x ∈ tagS s l, x < 256 := dec_lt _
/-- The digits of what a reading says, and of its tag. -/
def encD (l : List K) (r : Rg) : List Nat := (lputX r).2 ++ tagS (findK l r.key).sec (lputX r).2
def encX (l : List K) (r : Rg) : Int × List Nat :=
  if isR l = false then (1, []) else if (lputX r).1 ≠ 0 then ((lputX r).1, []) else if findE l r.key ≠ 0 then (findE l r.key, []) else (putE (encD l r), putL (encD l r))
def saidL (p : List Nat) : List Nat := p.take (p.length - 10)
def tailL (p : List Nat) : List Nat := p.drop (p.length - 10)
/-- What the digits p of a stripe say. -/
def toldX (l : List K) (p : List Nat) : Int × Rg :=
  if p.length < 10 then (14, zeroR) else if (lgetX (saidL p)).1 ≠ 0 then ((lgetX (saidL p)).1, zeroR) else if findE l (lgetX (saidL p)).2.key ≠ 0 then (findE l (lgetX (saidL p)).2.key, zeroR)
  else if (tailL p == tagS (findK l (lgetX (saidL p)).2.key).sec (saidL p)) = false then (11, zeroR) else lgetX (saidL p)
def decX (l : List K) (b : List Nat) : Int × Rg := if isR l = false then (1, zeroR) else if readE b ≠ 0 then (readE b, zeroR) else toldX l (readL b)

theorem slget_len {l : List Nat} {r : Rg} (h : lgetX l = (0, r)) : l.length ≤ 40 := by
  obtain ⟨x, q, v, rfl, _, hx, hs, _, _⟩ := lget_ok h
  rw [splitX] at hs
  split at hs
  · rename_i h1
    exact (h1 (Prod.mk.inj hs).1).elim
  · split at hs
    · exact absurd (Prod.mk.inj hs).1 (by decide)
    · rename_i h2
      have h3 : (totX (widL (x : Int))).1 ≤ 40 := by
        rcases (show x = 1 ∨ x = 2 ∨ x = 3 ∨ x = 4 by omega) with rfl | rfl | rfl | rfl <;> decide +kernel
      omega
theorem slput_len {r : Rg} {p : List Nat} {E : Int} (h : lputX r = (E, p)) : p.length ≤ 40 := by
  by_cases hE : E = 0
  · subst hE
    exact slget_len (lput_get h)
  · rw [lput_not h hE]; simp
theorem take_tail (p : List Nat) : saidL p ++ tailL p = p := List.take_append_drop _ _
theorem said_app (p t : List Nat) (h : t.length = 10) : saidL (p ++ t) = p ∧ tailL (p ++ t) = t := by
  have e : (p ++ t).length - 10 = p.length := by rw [List.length_append]; omega
  exact ⟨by rw [saidL, e, List.take_left], by rw [tailL, e, List.drop_left]⟩
/-- What was encoded: its parts. -/
theorem enc_ok {l : List K} {r : Rg} {b : List Nat} (h : encX l r = (0, b)) : isR l = true ∧ (lputX r).1 = 0 ∧ findE l r.key = 0 ∧ putE (encD l r) = 0 ∧ putL (encD l r) = b := by
  rw [encX] at h
  cases h1 : isR l with
  | false => rw [if_pos h1] at h; exact absurd (Prod.mk.inj h).1 (by decide)
  | true =>
    rw [if_neg (by rw [h1]; decide)] at h
    by_cases h2 : (lputX r).1 = 0
    · rw [if_neg (by omega)] at h
      by_cases h3 : findE l r.key = 0
      · rw [if_neg (by omega)] at h
        exact ⟨rfl, h2, h3, (Prod.mk.inj h).1, (Prod.mk.inj h).2⟩
      · rw [if_pos h3] at h; exact (h3 (Prod.mk.inj h).1).elim
    · rw [if_pos h2] at h; exact (h2 (Prod.mk.inj h).1).elim
theorem told_enc {l : List K} {r : Rg} (h2 : (lputX r).1 = 0) (h3 : findE l r.key = 0) : toldX l (encD l r) = (0, r) := by
  have hg := lput_get (show lputX r = (0, (lputX r).2) by rw [← h2])
  have ht := tagS_len (findK l r.key).sec (lputX r).2
  obtain ⟨e1, e2⟩ := said_app (lputX r).2 _ ht
  have e3 : ¬ (encD l r).length < 10 := by rw [encD, List.length_append, ht]; omega
  rw [toldX, if_neg e3, encD, e1, e2, hg, if_neg (by simp)]
  simp only
  rw [if_neg (by omega), if_neg (by simp)]
theorem enc_back {l : List K} {r : Rg} {b : List Nat} (h : encX l r = (0, b)) : decX l b = (0, r) ∧ getE b = 0 ∧ (∀ x ∈ b, x < 256) ∧ b.length ≤ 50 := by
  obtain ⟨h1, h2, h3, h4, rfl⟩ := enc_ok h
  have hx := get_put h4
  have hE : getE (putL (encD l r)) = 0 := by rw [getE, hx]
  have hL : getL (putL (encD l r)) = encD l r := by rw [getL, hx]
  obtain ⟨r1, r2, r3⟩ := read_first hE
  refine ⟨?_, hE, putL_lt h4, getE_len hE⟩
  rw [decX, if_neg (by rw [h1]; decide), if_neg (by omega), r3, hL, told_enc h2 h3]
theorem enc_turned {l : List K} {r : Rg} {b : List Nat} (h : encX l r = (0, b)) (ht : ¬ getE (turnL b) = 0) : decX l (turnL b) = (0, r) := by
  obtain ⟨h0, hE, hb, _⟩ := enc_back h
  obtain ⟨h1, h2, h3, h4, h5⟩ := enc_ok h
  have e := turn_turn b hb
  obtain ⟨r1, r2, r3⟩ := read_second ht (by rw [e]; exact hE)
  obtain ⟨q1, q2, q3⟩ := read_first hE
  rw [decX, if_neg (by rw [h1]; decide), if_neg (by omega)] at h0 ⊢
  rw [r3, e, ← q3]
  exact h0
theorem dec_ok {l : List K} {b : List Nat} {r : Rg} (h : decX l b = (0, r)) : isR l = true ∧ readE b = 0 ∧ toldX l (readL b) = (0, r) := by
  rw [decX] at h
  cases h1 : isR l with
  | false => rw [if_pos h1] at h; exact absurd (Prod.mk.inj h).1 (by decide)
  | true =>
    rw [if_neg (by rw [h1]; decide)] at h
    by_cases h2 : readE b = 0
    · rw [if_neg (by omega)] at h
      exact ⟨rfl, h2, h⟩
    · rw [if_pos h2] at h; exact (h2 (Prod.mk.inj h).1).elim
theorem told_ok {l : List K} {p : List Nat} {r : Rg} (h : toldX l p = (0, r)) : 10 ≤ p.length ∧ lgetX (saidL p) = (0, r) ∧ findE l r.key = 0 ∧ tailL p = tagS (findK l r.key).sec (saidL p) := by
  rw [toldX] at h
  by_cases h1 : p.length < 10
  · rw [if_pos h1] at h; exact absurd (Prod.mk.inj h).1 (by decide)
  · rw [if_neg h1] at h
    by_cases h2 : (lgetX (saidL p)).1 = 0
    · rw [if_neg (by omega)] at h
      by_cases h3 : findE l (lgetX (saidL p)).2.key = 0
      · rw [if_neg (by omega)] at h
        cases h4 : (tailL p == tagS (findK l (lgetX (saidL p)).2.key).sec (saidL p)) with
        | false => rw [if_pos h4] at h; exact absurd (Prod.mk.inj h).1 (by decide)
        | true =>
          rw [if_neg (by rw [h4]; decide)] at h
          have h5 := eq_of_beq h4
          rw [h] at h3 h5
          exact ⟨by omega, h, h3, h5⟩
      · rw [if_pos h3] at h; exact (h3 (Prod.mk.inj h).1).elim
    · rw [if_pos h2] at h; exact (h2 (Prod.mk.inj h).1).elim
/-- What was decoded: it is encoded as the same track. -/
theorem dec_enc {l : List K} {b : List Nat} {r : Rg} (hb : ∀ x ∈ b, x < 256) (h : decX l b = (0, r)) : encX l r = (0, putL (readL b)) ∧ putL (readL b) = (if readO b = true then turnL b else b) ∧ (∀ x ∈ putL (readL b), x < 256) ∧ b.length ≤ 50 ∧ lputX r = (0, saidL (readL b)) := by
  obtain ⟨h1, h2, h3⟩ := dec_ok h
  obtain ⟨g1, g2, g3, g4⟩ := told_ok h3
  obtain ⟨p1, p2⟩ := lget_put g2
  have he : encD l r = readL b := by
    rw [encD, p1, ← g4]
    exact take_tail _
  have hp : putE (readL b) = 0 ∧ putL (readL b) = (if readO b = true then turnL b else b) ∧ b.length ≤ 50 := by
    by_cases e1 : getE b = 0
    · obtain ⟨r1, r2, r3⟩ := read_first e1
      obtain ⟨x1, x2⟩ := put_get (get_zero e1)
      rw [r3, r2, if_neg (by decide)]
      exact ⟨x1, x2, getE_len e1⟩
    · by_cases e2 : getE (turnL b) = 0
      · obtain ⟨r1, r2, r3⟩ := read_second e1 e2
        obtain ⟨x1, x2⟩ := put_get (get_zero e2)
        rw [r3, r2, if_pos rfl]
        have := getE_len e2
        rw [turn_len] at this
        exact ⟨x1, x2, this⟩
      · obtain ⟨r1, r2, r3⟩ := read_none e1 e2
        exact (e1 (r1 ▸ h2)).elim
  refine ⟨?_, hp.2.1, putL_lt hp.1, hp.2.2, p1⟩
  rw [encX, if_neg (by rw [h1]; decide), p1]
  simp only
  rw [if_neg (by simp), if_neg (by omega), he, hp.1]
theorem dec_key {l : List K} {k : K} (b : List Nat) (h : 0 = addE l k) :
    (decX l b).1 ≠ 10 ∧ decX (addK l k) b = decX l b ∨ (decX l b).1 = 10 ∧ ((decX (addK l k) b).1 = 10 ∨ (decX (addK l k) b).1 = 11 ∨ (decX (addK l k) b).1 = 0 ∧ (decX (addK l k) b).2.key = k.id) := by
  obtain ⟨h1, h2, h3, h4, h5⟩ := add_zero h
  have same : decX (addK l k) b = decX l b → (decX l b).1 ≠ 10 ∧ decX (addK l k) b = decX l b ∨ (decX l b).1 = 10 ∧ ((decX (addK l k) b).1 = 10 ∨ (decX (addK l k) b).1 = 11 ∨ (decX (addK l k) b).1 = 0 ∧ (decX (addK l k) b).2.key = k.id) := by
    intro e
    by_cases h6 : (decX l b).1 = 10
    · exact .inr ⟨h6, .inl (by rw [e]; exact h6)⟩
    · exact .inl ⟨h6, e⟩
  by_cases e1 : readE b = 0
  · have dl : decX l b = toldX l (readL b) := by rw [decX, if_neg (by rw [h1]; decide), if_neg (by omega)]
    have dm : decX (addK l k) b = toldX (addK l k) (readL b) := by rw [decX, if_neg (by rw [h4, h5]; decide), if_neg (by omega)]
    by_cases e2 : (readL b).length < 10
    · refine same ?_
      rw [dl, dm, toldX, toldX, if_pos e2, if_pos e2]
    · by_cases e3 : (lgetX (saidL (readL b))).1 = 0
      · by_cases e4 : (lgetX (saidL (readL b))).2.key = k.id
        · have f1 : findE l k.id = 10 := by
            have := any_ne h3
            rw [findE, if_pos h1, if_neg]
            rw [Option.isSome_iff_exists]
            rintro ⟨x, hx⟩
            have g1 := List.mem_of_find?_eq_some hx
            have g2 := List.find?_some hx
            exact this x g1 (by simpa using g2)
          have f2 : findE (addK l k) k.id = 0 := by rw [h4, findE, if_pos h5, find_ins_same k l (any_ne h3)]; rfl
          have d1 : decX l b = (10, zeroR) := by
            rw [dl, toldX, if_neg e2, if_neg (by omega), e4, if_pos (by omega), f1]
          refine .inr ⟨by rw [d1], .inr ?_⟩
          rw [dm, toldX, if_neg e2, if_neg (by omega), e4, if_neg (by omega)]
          split
          · exact .inl rfl
          · exact .inr ⟨e3, e4⟩
        · have f1 : findE (addK l k) (lgetX (saidL (readL b))).2.key = findE l (lgetX (saidL (readL b))).2.key := by
            rw [h4, findE, findE, if_pos h5, if_pos h1, find_ins_other k l _ (fun e => e4 e.symm)]
          have f2 : findK (addK l k) (lgetX (saidL (readL b))).2.key = findK l (lgetX (saidL (readL b))).2.key := by
            rw [h4, findK, findK, if_pos h5, if_pos h1, find_ins_other k l _ (fun e => e4 e.symm)]
          refine same ?_
          rw [dl, dm, toldX, toldX, f1, f2]
      · refine same ?_
        rw [dl, dm, toldX, toldX, if_neg e2, if_neg e2, if_pos e3, if_pos e3]
  · refine same ?_
    have dl : decX l b = (readE b, zeroR) := by rw [decX, if_neg (by rw [h1]; decide), if_pos e1]
    have dm : decX (addK l k) b = (readE b, zeroR) := by rw [decX, if_neg (by rw [h4, h5]; decide), if_pos e1]
    rw [dl, dm]
end Go.Proofs.YtpniolinndlepaaGreatDoor
