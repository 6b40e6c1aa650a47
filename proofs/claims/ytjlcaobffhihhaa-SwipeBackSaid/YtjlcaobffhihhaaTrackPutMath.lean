/-
  Plain facts for Put and Get: the values as they are gathered, what is read step by step. No program here.
-/
import Derived.Test.YtjlcaobffhihhaaTrackVals
namespace Go.Proofs.Ytjlcaobffhihhaa
set_option linter.unusedVariables false
open Go.ChangeShapes Go.WideShapes Go.ChangeAt Go.RowKit

theorem digits_take {d : List Nat} {k x : Nat} (h : d[k]? = some x) : digitsOk (d.take (k + 1)) = (digitsOk (d.take k) && decide (x ≤ 9)) := by
  rw [List.take_add_one, h, digitsOk, digitsOk, List.all_append]; simp
theorem digits_bad {d : List Nat} {k x : Nat} (h : d[k]? = some x) (hx : ¬ x ≤ 9) : digitsOk d = false := by
  cases hs : digitsOk d with
  | false => rfl
  | true =>
    have := (List.all_eq_true.1 hs) x (List.mem_of_getElem? h)
    simp at this
    omega
theorem pv_lt {d : List Nat} (h : digitsOk d = true) : ∀ v ∈ putVals d, v < 16 := by
  intro v hv
  simp only [putVals, List.mem_cons, List.mem_append, List.not_mem_nil, or_false] at hv
  rcases hv with rfl | hv | rfl
  · omega
  · have := (List.all_eq_true.1 h) v hv
    simp at this
    omega
  · omega
theorem tv_lt {d : List Nat} (h : digitsOk d = true) : ∀ v ∈ trackV d, v < 16 := by
  intro v hv
  simp only [trackV, List.mem_append, List.mem_singleton] at hv
  rcases hv with hv | rfl
  · exact pv_lt h v hv
  · exact xorL_lt _ (pv_lt h)
theorem nz_step {d : List Nat} {k x : Nat} (h : d[k]? = some x) : NZ (11 :: d.take (k + 1)) = NZ (11 :: d.take k) ++ [(x : Int)] := by
  rw [List.take_add_one, h]; simp [NZ]
theorem nz_pv (d : List Nat) : NZ (putVals d) = NZ (11 :: d) ++ [15] := by simp [NZ, putVals]
theorem nz_tv (d : List Nat) : NZ (trackV d) = NZ (putVals d) ++ [((xorL (putVals d) : Nat) : Int)] := by simp [NZ, trackV]
theorem int_lit (w : World) (x : Int) : ∀ j u, (I64 [x])[j]? = some u → (w.alloc (.cells #[.int .i64 x] 3)).cell? ((⟨w.heap.size, 0, none⟩ : Addr).add j) = some u := by
  intro j u hu
  rw [at_add, cell_of_row _ _ j _ 3 (0, 0) (heap_alloc_new w _)]
  simpa [I64] using hu
set_option linter.unusedVariables false
open Go.ChangeShapes Go.WideShapes Go.ChangeAt Go.RowKit

def exE : Except Int (List Nat) → Int
  | .error e => e
  | .ok _ => 0
def exL : Except Int (List Nat) → List Nat
  | .error _ => []
  | .ok d => d
theorem getE_x (b : List Nat) : getE b = exE (getX b) := by
  unfold getE exE; cases getX b <;> rfl
theorem getL_x (b : List Nat) : getL b = exL (getX b) := by
  unfold getL exL; cases getX b <;> rfl
theorem get_len {b : List Nat} (h : b.length < 2 ∨ 50 < b.length) : getE b = 14 ∧ getL b = [] := by
  rw [getE_x, getL_x, getX, if_pos h]; exact ⟨rfl, rfl⟩
theorem get_start {b : List Nat} (h : ¬ (b.length < 2 ∨ 50 < b.length)) (h2 : chAt (unpackL b) 0 ≠ 11) : getE b = 4 ∧ getL b = [] := by
  rw [getE_x, getL_x, getX, if_neg h, if_pos h2]; exact ⟨rfl, rfl⟩
theorem get_scan {b : List Nat} (h : ¬ (b.length < 2 ∨ 50 < b.length)) (h2 : chAt (unpackL b) 0 = 11) {R : Except Int (List Nat × Nat)} (hR : scanL (unpackL b) (unpackL b).length 5 [] = R) :
    (∀ e, R = .error e → getE b = e ∧ getL b = []) ∧ (∀ out i, R = .ok (out, i) → getE b = exE (lastL b (unpackL b) out i) ∧ getL b = exL (lastL b (unpackL b) out i)) := by
  rw [getE_x, getL_x, getX, if_neg h, if_neg (by rw [h2]; decide), hR]
  constructor
  · intro e he; subst he; exact ⟨rfl, rfl⟩
  · intro out i he; subst he; exact ⟨rfl, rfl⟩
section
variable {l : List Bool} {f i : Nat} {out : List Nat}
theorem scan_end (h : l.length < i + 5) : scanL l f i out = .error 5 := by
  cases f with
  | zero => rfl
  | succ f => rw [scanL, if_pos h]
theorem scan_par (hf : l.length + 5 ≤ f + i) (h : i + 5 ≤ l.length) (h1 : ones5 (chAt l i) % 2 = 0) : scanL l f i out = .error 3 := by
  obtain ⟨g, rfl⟩ : ∃ g, f = g + 1 := ⟨f - 1, by omega⟩
  rw [scanL, if_neg (by omega), if_pos h1]
theorem scan_dig (hf : l.length + 5 ≤ f + i) (h : i + 5 ≤ l.length) (h1 : ¬ ones5 (chAt l i) % 2 = 0) (h2 : 9 < chAt l i % 16) (h3 : chAt l i % 16 ≠ 15) : scanL l f i out = .error 7 := by
  obtain ⟨g, rfl⟩ : ∃ g, f = g + 1 := ⟨f - 1, by omega⟩
  rw [scanL, if_neg (by omega), if_neg h1, if_pos ⟨h2, h3⟩]
theorem scan_15 (hf : l.length + 5 ≤ f + i) (h : i + 5 ≤ l.length) (h1 : ¬ ones5 (chAt l i) % 2 = 0) (h3 : chAt l i % 16 = 15) : scanL l f i out = .ok (out, i + 5) := by
  obtain ⟨g, rfl⟩ : ∃ g, f = g + 1 := ⟨f - 1, by omega⟩
  rw [scanL, if_neg (by omega), if_neg h1, if_neg (by omega), if_pos h3]
theorem scan_more (hf : l.length + 5 ≤ f + i) (h : i + 5 ≤ l.length) (h1 : ¬ ones5 (chAt l i) % 2 = 0) (h2 : ¬ 9 < chAt l i % 16) : ∃ g, l.length + 5 ≤ g + (i + 5) ∧ scanL l f i out = scanL l g (i + 5) (out ++ [chAt l i % 16]) := by
  obtain ⟨g, rfl⟩ : ∃ g, f = g + 1 := ⟨f - 1, by omega⟩
  refine ⟨g, by omega, ?_⟩
  rw [scanL, if_neg (by omega), if_neg h1, if_neg (by omega), if_neg (by omega)]
variable {b : List Nat}
theorem last_end (h : l.length < i + 5) : lastL b l out i = .error 5 := by rw [lastL, if_pos h]
theorem last_par (h : i + 5 ≤ l.length) (h1 : ones5 (chAt l i) % 2 = 0) : lastL b l out i = .error 3 := by rw [lastL, if_neg (by omega), if_pos h1]
theorem last_sum (h : i + 5 ≤ l.length) (h1 : ¬ ones5 (chAt l i) % 2 = 0) (h2 : chAt l i % 16 ≠ xorL (putVals out)) : lastL b l out i = .error 6 := by rw [lastL, if_neg (by omega), if_neg h1, if_pos h2]
theorem last_lim (h : i + 5 ≤ l.length) (h1 : ¬ ones5 (chAt l i) % 2 = 0) (h2 : chAt l i % 16 = xorL (putVals out)) (h3 : 77 < out.length) : lastL b l out i = .error 21 := by rw [lastL, if_neg (by omega), if_neg h1, if_neg (by rw [h2]; exact fun h => h rfl), if_pos h3]
theorem last_len (h : i + 5 ≤ l.length) (h1 : ¬ ones5 (chAt l i) % 2 = 0) (h2 : chAt l i % 16 = xorL (putVals out)) (h3 : ¬ 77 < out.length) (h4 : packL (l.take (i + 5)) ≠ b) : lastL b l out i = .error 14 := by rw [lastL, if_neg (by omega), if_neg h1, if_neg (by rw [h2]; exact fun h => h rfl), if_neg h3, if_pos h4]
theorem last_ok (h : i + 5 ≤ l.length) (h1 : ¬ ones5 (chAt l i) % 2 = 0) (h2 : chAt l i % 16 = xorL (putVals out)) (h3 : ¬ 77 < out.length) (h4 : packL (l.take (i + 5)) = b) : lastL b l out i = .ok out := by rw [lastL, if_neg (by omega), if_neg h1, if_neg (by rw [h2]; exact fun h => h rfl), if_neg h3, if_neg (by rw [h4]; exact fun h => h rfl)]
end
theorem val_odd (c : Nat) (hc : c < 32) (h : ¬ ones5 c % 2 = 0) : valV (c : Int) = ((c % 16 : Nat) : Int) ∧ valE (c : Int) = 0 := by
  have hi : isC (c : Int) = true := (isC_iff _).2 ⟨by omega, by omega⟩
  rw [valV, valE, if_pos hi, if_pos hi, Int.toNat_natCast, if_neg h, if_neg h]
  exact ⟨by omega, rfl⟩
theorem val_even (c : Nat) (hc : c < 32) (h : ones5 c % 2 = 0) : valV (c : Int) = 0 ∧ valE (c : Int) = 3 := by
  have hi : isC (c : Int) = true := (isC_iff _).2 ⟨by omega, by omega⟩
  rw [valV, valE, if_pos hi, if_pos hi, Int.toNat_natCast, if_pos h, if_pos h]
  exact ⟨rfl, rfl⟩
/-- Rows of unlike elements lie in unlike blocks. -/
theorem own_apart {w : World} {base base' n m : Nat} {e e' : TypeId} {v u : Value} {xs ys : List Value} (h : w.ownsRow base e 1 v n xs) (h' : w.ownsRow base' e' 1 u m ys) (hne : e ≠ e') : v.ownBlock = none ∨ v.ownBlock ≠ u.ownBlock := by
  rcases h.2 with ⟨rfl, _⟩ | ⟨g, cap, cur, rfl, _, hg, _⟩
  · exact .inl rfl
  · right
    rcases h'.2 with ⟨rfl, _⟩ | ⟨g', cap', cur', rfl, _, hg', _⟩
    · simp [Value.ownBlock]
    · intro e2
      have e3 : g = g' := by simpa [Value.ownBlock] using e2
      subst e3
      rw [hg] at hg'
      simp at hg'
      exact hne hg'.2
theorem own_kept {w w' : World} {base base' n m : Nat} {e e' : TypeId} {v u : Value} {xs ys : List Value} (hg : w.grownBy w' u.ownBlock) (h : w.ownsRow base e 1 v n xs) (h' : w.ownsRow base' e' 1 u m ys) (hne : e ≠ e') : w'.ownsRow base e 1 v n xs := h.kept hg (own_apart h h' hne)
theorem nz_snoc (out : List Nat) (d : Nat) : NZ (11 :: (out ++ [d])) = NZ (11 :: out) ++ [(d : Int)] := by simp [NZ]
theorem last_ne {out : List Nat} (h : digitsOk out = true) : ∃ z : Nat, (NZ (11 :: out))[out.length]? = some ((z : Int)) ∧ z < 15 := by
  obtain ⟨x, hx⟩ : ∃ x, (11 :: out)[out.length]? = some x := ⟨_, List.getElem?_eq_getElem (by simp)⟩
  refine ⟨x, NZ_at hx, ?_⟩
  have := List.mem_of_getElem? hx
  rcases List.mem_cons.1 this with rfl | hm
  · omega
  · have := (List.all_eq_true.1 h) x hm
    simp at this
    omega
theorem last_15 (out : List Nat) : (NZ (putVals out))[out.length + 1]? = some 15 := by
  have : (putVals out)[out.length + 1]? = some 15 := by simp [putVals]
  exact NZ_at this
theorem u8_lit (w : World) (x : Nat) : ∀ j u, (U8 [x])[j]? = some u → (w.alloc (.cells #[.int .u8 (x : Int)] 5)).cell? ((⟨w.heap.size, 0, none⟩ : Addr).add j) = some u := by
  intro j u hu
  rw [at_add, cell_of_row _ _ j _ 5 (0, 0) (heap_alloc_new w _)]
  simpa [U8] using hu
end Go.Proofs.Ytjlcaobffhihhaa
