/-
  Plain facts about what is told of a track. No memory and no program here.
-/
import Derived.Test.YtjlcaobffhihhaaTrackBackMath
namespace Go.Proofs.Ytjlcaobffhihhaa

theorem scan_ne {l : List Bool} {e : Int} : ∀ (f i : Nat) (out : List Nat), scanL l f i out = .error e → e ≠ 0 := by
  intro f
  induction f with
  | zero => intro i out h; cases h; decide
  | succ f ih =>
    intro i out h
    rw [scanL] at h
    split at h
    · cases h; decide
    · split at h
      · cases h; decide
      · split at h
        · cases h; decide
        · split at h
          · cases h
          · exact ih _ _ h
theorem get_ne {b : List Nat} {e : Int} (h : getX b = .error e) : e ≠ 0 := by
  rw [getX] at h
  split at h
  · cases h; decide
  · split at h
    · cases h; decide
    · split at h
      · rename_i e' hs
        cases h
        exact scan_ne _ _ _ hs
      · rw [lastL] at h
        split at h
        · cases h; decide
        · split at h
          · cases h; decide
          · split at h
            · cases h; decide
            · split at h
              · cases h; decide
              · split at h
                · cases h; decide
                · cases h
theorem get_zero {b : List Nat} (h : getE b = 0) : getX b = .ok (getL b) := by
  unfold getE getL at *
  cases hx : getX b with
  | error e => rw [hx] at h; exact absurd h (get_ne hx)
  | ok d => rfl
theorem get_empty {b : List Nat} (h : ¬ getE b = 0) : getL b = [] := by
  unfold getE getL at *
  cases hx : getX b with
  | error e => rfl
  | ok d => rw [hx] at h; exact absurd rfl h
theorem getE_len {b : List Nat} (h : getE b = 0) : b.length ≤ 50 := by
  have hx := get_zero h
  rw [getX] at hx
  split at hx
  · cases hx
  · omega
theorem putL_lt {d : List Nat} (h : putE d = 0) : ∀ x ∈ putL d, x < 256 := by
  rw [putL, if_pos h]; exact packL_lt _
end Go.Proofs.Ytjlcaobffhihhaa
