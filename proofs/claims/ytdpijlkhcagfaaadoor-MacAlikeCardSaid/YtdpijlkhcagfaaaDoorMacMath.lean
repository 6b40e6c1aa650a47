/-
  Plain facts on bytes for layer 3 (mac): a secret's block, a block under a mask, the tag. No memory and no program here.
-/
import Derived.Test.YtdpijlkhcagfaaaDoorShaFast
namespace Go.Proofs.YtdpijlkhcagfaaaDoor

/-- A secret, or its digest, and zeros behind it. -/
def keyN (l : List Nat) : List Nat := if 64 < l.length then digestN l else l
def blockM (l : List Nat) : List Nat := keyN l ++ List.replicate (64 - (keyN l).length) 0
/-- Each byte by exclusive or with m. -/
def maskN (k : List Nat) (m : Nat) : List Nat := k.map (· ^^^ m)
def tagN (s b : List Nat) : List Nat := digestN (maskN (blockM s) 92 ++ digestN (maskN (blockM s) 54 ++ b))

theorem length_dig (l : List Nat) : (digestN l).length = 32 := by unfold digestN; rw [length_bytesOf]; rfl
theorem dig_lt (l : List Nat) : ∀ x ∈ digestN l, x < 256 := bytesOf_lt _
theorem length_keyN (l : List Nat) : (keyN l).length ≤ 64 := by
  unfold keyN
  split
  · rw [length_dig]; omega
  · omega
theorem length_blockM (l : List Nat) : (blockM l).length = 64 := by
  have := length_keyN l
  simp [blockM]; omega
theorem keyN_lt (l : List Nat) (h : ∀ x ∈ l, x < 256) : ∀ x ∈ keyN l, x < 256 := by
  unfold keyN
  split
  · exact dig_lt l
  · exact h
theorem blockM_lt (l : List Nat) (h : ∀ x ∈ l, x < 256) : ∀ x ∈ blockM l, x < 256 := by
  intro x hx
  rcases List.mem_append.1 hx with h1 | h1
  · exact keyN_lt l h x h1
  · have := (List.mem_replicate.1 h1).2; omega
theorem length_maskN (k : List Nat) (m : Nat) : (maskN k m).length = k.length := by simp [maskN]
theorem xor_lt8 {a b : Nat} (ha : a < 256) (hb : b < 256) : a ^^^ b < 256 := Nat.xor_lt_two_pow (n := 8) ha hb
theorem maskN_lt (k : List Nat) (m : Nat) (hk : ∀ x ∈ k, x < 256) (hm : m < 256) : ∀ x ∈ maskN k m, x < 256 := by
  intro x hx
  simp only [maskN, List.mem_map] at hx
  obtain ⟨y, hy, rfl⟩ := hx
  exact xor_lt8 (hk y hy) hm
/-- The first j under the mask, the rest as they were. -/
def maskTo (k : List Nat) (m j : Nat) : List Nat := (k.take j).map (· ^^^ m) ++ k.drop j
theorem maskTo_zero (k : List Nat) (m : Nat) : maskTo k m 0 = k := by simp [maskTo]
theorem maskTo_all (k : List Nat) (m : Nat) : maskTo k m k.length = maskN k m := by simp [maskTo, maskN]
theorem length_maskTo (k : List Nat) (m j : Nat) : (maskTo k m j).length = k.length := by simp [maskTo]; omega
theorem maskTo_get (k : List Nat) (m j : Nat) : (maskTo k m j).getD j 0 = k.getD j 0 := by
  unfold maskTo
  by_cases h : j < k.length
  · have hl : ((k.take j).map (· ^^^ m)).length = j := by simp; omega
    rw [List.getD_eq_getElem?_getD, List.getElem?_append_right (by rw [hl]; exact Nat.le_refl _), hl, Nat.sub_self, List.getElem?_drop, Nat.add_zero, ← List.getD_eq_getElem?_getD]
  · have h1 : (maskTo k m j).length = k.length := length_maskTo k m j
    unfold maskTo at h1
    rw [List.getD_eq_getElem?_getD, List.getD_eq_getElem?_getD, List.getElem?_eq_none (by omega), List.getElem?_eq_none (by omega)]
theorem maskTo_set (k : List Nat) (m j : Nat) (h : j < k.length) : (maskTo k m j).set j (k.getD j 0 ^^^ m) = maskTo k m (j + 1) := by
  unfold maskTo
  have hl : ((k.take j).map (· ^^^ m)).length = j := by simp; omega
  have e : k.take (j + 1) = k.take j ++ [k[j]] := List.take_succ_eq_append_getElem h
  have eg : k.getD j 0 = k[j] := by rw [List.getD_eq_getElem?_getD, List.getElem?_eq_getElem h]; rfl
  rw [List.set_append_right _ _ (by rw [hl]; exact Nat.le_refl _), hl, Nat.sub_self, List.drop_eq_getElem_cons h, List.set_cons_zero, e, eg, List.map_append, List.append_assoc]
  rfl
theorem getD_lt8 {k : List Nat} (hk : ∀ x ∈ k, x < 256) (j : Nat) : k.getD j 0 < 256 := by
  rw [List.getD_eq_getElem?_getD]
  rcases h : k[j]? with _ | y
  · simp
  · exact hk y (List.mem_of_getElem? h)
theorem key_block (l : List Nat) : blockM (blockM l) = blockM l := by
  have h : keyN (blockM l) = blockM l := by unfold keyN; rw [if_neg (by rw [length_blockM]; omega)]
  have e : blockM (blockM l) = keyN (blockM l) ++ List.replicate (64 - (keyN (blockM l)).length) 0 := rfl
  rw [e, h, length_blockM]; simp
theorem tag_of_block {s s' : List Nat} (h : blockM s = blockM s') (b : List Nat) : tagN s b = tagN s' b := by unfold tagN; rw [h]
theorem block_digest (l : List Nat) (h : 64 < l.length) : blockM (digestN l) = blockM l := by
  have h1 : keyN (digestN l) = digestN l := by unfold keyN; rw [if_neg (by rw [length_dig]; omega)]
  have h2 : keyN l = digestN l := by unfold keyN; rw [if_pos h]
  unfold blockM
  rw [h1, h2]
theorem block_zeros (l : List Nat) (n : Nat) (h : l.length + n ≤ 64) : blockM (l ++ List.replicate n 0) = blockM l := by
  have h1 : keyN (l ++ List.replicate n 0) = l ++ List.replicate n 0 := by unfold keyN; rw [if_neg (by simp; omega)]
  have h2 : keyN l = l := by unfold keyN; rw [if_neg (by omega)]
  unfold blockM
  rw [h1, h2, List.append_assoc, List.replicate_append_replicate]
  congr 2
  simp; omega
end Go.Proofs.YtdpijlkhcagfaaaDoor
