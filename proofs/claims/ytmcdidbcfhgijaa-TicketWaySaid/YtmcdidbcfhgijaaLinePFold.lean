/-
  The least and the greatest zone of a way, station by station, from the way's lower end. No memory and no program here.
-/
import Derived.Test.YtmcdidbcfhgijaaLinePWay
namespace Go.Proofs.Ytmcdidbcfhgijaa

def mnl (a : Int) (pre : List (Fin 40)) : Int := pre.foldl (fun m s => mn m (zn (s.val : Int))) (zn a)
def mxl (a : Int) (pre : List (Fin 40)) : Int := pre.foldl (fun m s => mx m (zn (s.val : Int))) (zn a)
theorem mnl_snoc (a : Int) (pre : List (Fin 40)) (x : Fin 40) : mnl a (pre ++ [x]) = mn (mnl a pre) (zn (x.val : Int)) := by simp [mnl]
theorem mxl_snoc (a : Int) (pre : List (Fin 40)) (x : Fin 40) : mxl a (pre ++ [x]) = mx (mxl a pre) (zn (x.val : Int)) := by simp [mxl]
theorem mn_ge {c x z : Int} (h1 : c ≤ x) (h2 : c ≤ z) : c ≤ mn x z := by unfold mn; split <;> omega
theorem mx_le {c x z : Int} (h1 : x ≤ c) (h2 : z ≤ c) : mx x z ≤ c := by unfold mx; split <;> omega
theorem fmn_le : ∀ (pre : List (Fin 40)) (i : Int), pre.foldl (fun m s => mn m (zn (s.val : Int))) i ≤ i ∧ ∀ s ∈ pre, pre.foldl (fun m s => mn m (zn (s.val : Int))) i ≤ zn (s.val : Int)
  | [], i => ⟨Int.le_refl _, by simp⟩
  | x :: xs, i => by
    obtain ⟨h1, h2⟩ := fmn_le xs (mn i (zn (x.val : Int)))
    refine ⟨Int.le_trans h1 (mn_left _ _), fun s hs => ?_⟩
    rcases List.mem_cons.1 hs with rfl | hs
    · exact Int.le_trans h1 (mn_right _ _)
    · exact h2 s hs
theorem fmn_ge (c : Int) : ∀ (pre : List (Fin 40)) (i : Int), c ≤ i → (∀ s ∈ pre, c ≤ zn (s.val : Int)) → c ≤ pre.foldl (fun m s => mn m (zn (s.val : Int))) i
  | [], i, h, _ => h
  | x :: xs, i, h, hs => fmn_ge c xs _ (mn_ge h (hs x (by simp))) (fun s h => hs s (by simp [h]))
theorem fmx_ge : ∀ (pre : List (Fin 40)) (i : Int), i ≤ pre.foldl (fun m s => mx m (zn (s.val : Int))) i ∧ ∀ s ∈ pre, zn (s.val : Int) ≤ pre.foldl (fun m s => mx m (zn (s.val : Int))) i
  | [], i => ⟨Int.le_refl _, by simp⟩
  | x :: xs, i => by
    obtain ⟨h1, h2⟩ := fmx_ge xs (mx i (zn (x.val : Int)))
    refine ⟨Int.le_trans (mx_left _ _) h1, fun s hs => ?_⟩
    rcases List.mem_cons.1 hs with rfl | hs
    · exact Int.le_trans (mx_right _ _) h1
    · exact h2 s hs
theorem fmx_le (c : Int) : ∀ (pre : List (Fin 40)) (i : Int), i ≤ c → (∀ s ∈ pre, zn (s.val : Int) ≤ c) → pre.foldl (fun m s => mx m (zn (s.val : Int))) i ≤ c
  | [], i, h, _ => h
  | x :: xs, i, h, hs => fmx_le c xs _ (mx_le h (hs x (by simp))) (fun s h => hs s (by simp [h]))
theorem low_geF (a b c : Int) : ∀ k : Nat, c ≤ 6 → (∀ j, j < k → between a b (j : Int) = true → c ≤ zn (j : Int)) → c ≤ lowF a b k
  | 0, h, _ => h
  | k + 1, h, hb => by
    have ih := low_geF a b c k h (fun j hj => hb j (by omega))
    rw [lowF]
    split
    · rename_i e; exact mn_ge ih (hb k (by omega) e)
    · exact ih
theorem high_leF (a b c : Int) : ∀ k : Nat, 1 ≤ c → (∀ j, j < k → between a b (j : Int) = true → zn (j : Int) ≤ c) → highF a b k ≤ c
  | 0, h, _ => h
  | k + 1, h, hb => by
    have ih := high_leF a b c k h (fun j hj => hb j (by omega))
    rw [highF]
    split
    · rename_i e; exact mx_le ih (hb k (by omega) e)
    · exact ih
theorem mem_upw {lo m : Nat} (h : lo + m ≤ 40) (s : Fin 40) : s ∈ upw lo m ↔ lo ≤ s.val ∧ s.val < lo + m := by
  unfold upw
  rw [List.mem_map]
  constructor
  · rintro ⟨j, hj, rfl⟩
    have := List.mem_range.1 hj
    rw [stt_eq (show lo + j < 40 by omega)]
    exact ⟨by show lo ≤ lo + j; omega, by show lo + j < lo + m; omega⟩
  · rintro ⟨h1, h2⟩
    exact ⟨s.val - lo, List.mem_range.2 (by omega), by rw [show lo + (s.val - lo) = s.val by omega, stt_eq s.isLt]⟩
theorem way_ends {a b : Int} (ha : isN a = true) (hb : isN b = true) : ∃ lo m : Nat, mn a b = (lo : Int) ∧ mx a b = (lo : Int) + (m : Int) - 1 ∧ lo + m ≤ 40 ∧ (∀ s : Fin 40, s ∈ upw lo m ↔ between a b (s.val : Int) = true) := by
  have h1 := (isN_iff a).1 ha
  have h2 := (isN_iff b).1 hb
  have hm : 0 ≤ mn a b ∧ mn a b ≤ mx a b ∧ mx a b ≤ 39 := by unfold mn mx; split <;> split <;> omega
  have h40 : (mn a b).toNat + (mx a b - mn a b + 1).toNat ≤ 40 := by omega
  refine ⟨(mn a b).toNat, (mx a b - mn a b + 1).toNat, by omega, by omega, h40, fun s => ?_⟩
  rw [mem_upw h40, between_iff]
  unfold mn mx
  split <;> split <;> omega
theorem mnl_way {a b : Int} {pre : List (Fin 40)} (ha : isN a = true) (hp : ∀ s : Fin 40, s ∈ pre ↔ between a b (s.val : Int) = true) : mnl a pre = lowF a b 40 := by
  have hz := zn_in ha
  have hs := (isN_iff a).1 ha
  have e : ((a.toNat : Nat) : Int) = a := by omega
  have l := fmn_le pre (zn a)
  refine Int.le_antisymm (low_geF a b _ 40 (Int.le_trans l.1 (by omega)) (fun j hj hb => l.2 ⟨j, hj⟩ ((hp ⟨j, hj⟩).2 hb))) (fmn_ge _ pre _ ?_ (fun s h => low_le a b 40 s.val s.isLt ((hp s).1 h)))
  have := low_le a b 40 a.toNat (by omega) (by rw [e, between_iff]; omega)
  rw [e] at this
  exact this
theorem mxl_way {a b : Int} {pre : List (Fin 40)} (ha : isN a = true) (hp : ∀ s : Fin 40, s ∈ pre ↔ between a b (s.val : Int) = true) : mxl a pre = highF a b 40 := by
  have hz := zn_in ha
  have hs := (isN_iff a).1 ha
  have e : ((a.toNat : Nat) : Int) = a := by omega
  have l := fmx_ge pre (zn a)
  refine Int.le_antisymm (fmx_le _ pre _ ?_ (fun s h => le_high a b 40 s.val s.isLt ((hp s).1 h))) (high_leF a b _ 40 (Int.le_trans (by omega) l.1) (fun j hj hb => l.2 ⟨j, hj⟩ ((hp ⟨j, hj⟩).2 hb)))
  have := le_high a b 40 a.toNat (by omega) (by rw [e, between_iff]; omega)
  rw [e] at this
  exact this
end Go.Proofs.Ytmcdidbcfhgijaa
