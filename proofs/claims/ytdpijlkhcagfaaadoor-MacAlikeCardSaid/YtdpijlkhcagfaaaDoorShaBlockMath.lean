/-
  Plain facts on numbers for layer 2's blocks: the table, the sixty-four words, the rounds. No memory and no program here.
-/
import Derived.Test.YtdpijlkhcagfaaaDoorShaMath
namespace Go.Proofs.YtdpijlkhcagfaaaDoor

/-- The table of constants. -/
def kTab : List Nat := [1116352408, 1899447441, 3049323471, 3921009573, 961987163, 1508970993, 2453635748, 2870763221, 3624381080, 310598401, 607225278, 1426881987, 1925078388, 2162078206, 2614888103, 3248222580, 3835390401, 4022224774, 264347078, 604807628, 770255983, 1249150122, 1555081692, 1996064986, 2554220882, 2821834349, 2952996808, 3210313671, 3336571891, 3584528711, 113926993, 338241895, 666307205, 773529912, 1294757372, 1396182291, 1695183700, 1986661051, 2177026350, 2456956037, 2730485921, 2820302411, 3259730800, 3345764771, 3516065817, 3600352804, 4094571909, 275423344, 430227734, 506948616, 659060556, 883997877, 958139571, 1322822218, 1537002063, 1747873779, 1955562222, 2024104815, 2227730452, 2361852424, 2428436474, 2756734187, 3204031479, 3329325298]
theorem length_kTab : kTab.length = 64 := rfl
theorem kTab_lt : ∀ x ∈ kTab, x < 4294967296 := by decide

/-- The word of place t, by the words ahead of it. -/
def wNext (w l : List Nat) (t : Nat) : Nat := if t < 16 then w.getD t 0 else (l.getD (t - 16) 0 + twoN (l.getD (t - 15) 0) 7 18 8 + l.getD (t - 7) 0 + twoN (l.getD (t - 2) 0) 17 19 1024) % 4294967296
/-- The first t words of a block. -/
def wl (w : List Nat) : Nat → List Nat
  | 0 => []
  | t + 1 => wl w t ++ [wNext w (wl w t) t]
theorem length_wl (w : List Nat) (t : Nat) : (wl w t).length = t := by
  induction t with
  | zero => rfl
  | succ t ih => simp [wl, ih]
theorem wl_lt (w : List Nat) (hw : ∀ x ∈ w, x < 4294967296) (t : Nat) : ∀ x ∈ wl w t, x < 4294967296 := by
  induction t with
  | zero => intro x hx; simp [wl] at hx
  | succ t ih =>
    intro x hx
    rw [wl, List.mem_append, List.mem_singleton] at hx
    rcases hx with hx | rfl
    · exact ih x hx
    · unfold wNext
      split
      · rw [List.getD_eq_getElem?_getD]
        rcases h : w[t]? with _ | y
        · simp
        · exact hw y (List.mem_of_getElem? h)
      · omega

/-- Eight words. -/
structure St where
  a : Nat
  b : Nat
  c : Nat
  d : Nat
  e : Nat
  f : Nat
  g : Nat
  h : Nat
def St.ok (v : St) : Prop := v.a < 4294967296 ∧ v.b < 4294967296 ∧ v.c < 4294967296 ∧ v.d < 4294967296 ∧ v.e < 4294967296 ∧ v.f < 4294967296 ∧ v.g < 4294967296 ∧ v.h < 4294967296
def St.list (v : St) : List Nat := [v.a, v.b, v.c, v.d, v.e, v.f, v.g, v.h]
def t1N (v : St) (k w : Nat) : Nat := (v.h + threeN v.e 6 11 25 + pk v.e v.f v.g 32 + k + w) % 4294967296
def t2N (v : St) : Nat := (threeN v.a 2 13 22 + mj v.a v.b v.c 32) % 4294967296
/-- One round. -/
def rnd (v : St) (k w : Nat) : St := ⟨(t1N v k w + t2N v) % 4294967296, v.a, v.b, v.c, (v.d + t1N v k w) % 4294967296, v.e, v.f, v.g⟩
def rnds (v : St) (l : List Nat) : Nat → St
  | 0 => v
  | t + 1 => rnd (rnds v l t) (kTab.getD t 0) (l.getD t 0)
/-- The sums of each place. -/
def sumSt (v h : St) : St := ⟨(v.a + h.a) % 4294967296, (v.b + h.b) % 4294967296, (v.c + h.c) % 4294967296, (v.d + h.d) % 4294967296, (v.e + h.e) % 4294967296, (v.f + h.f) % 4294967296, (v.g + h.g) % 4294967296, (v.h + h.h) % 4294967296⟩
def blockN (h : St) (w : List Nat) : St := sumSt (rnds h (wl w 64) 64) h
theorem rnd_ok {v : St} (h : v.ok) (k w : Nat) : (rnd v k w).ok := by
  obtain ⟨h1, h2, h3, h4, h5, h6, h7, h8⟩ := h
  exact ⟨Nat.mod_lt _ (by omega), h1, h2, h3, Nat.mod_lt _ (by omega), h5, h6, h7⟩
theorem rnds_ok {v : St} (h : v.ok) (l : List Nat) (t : Nat) : (rnds v l t).ok := by
  induction t with
  | zero => exact h
  | succ t ih => exact rnd_ok ih _ _
theorem sumSt_ok (v h : St) : (sumSt v h).ok := ⟨Nat.mod_lt _ (by omega), Nat.mod_lt _ (by omega), Nat.mod_lt _ (by omega), Nat.mod_lt _ (by omega), Nat.mod_lt _ (by omega), Nat.mod_lt _ (by omega), Nat.mod_lt _ (by omega), Nat.mod_lt _ (by omega)⟩
theorem St.list_lt {v : St} (h : v.ok) : ∀ x ∈ v.list, x < 4294967296 := by
  obtain ⟨h1, h2, h3, h4, h5, h6, h7, h8⟩ := h
  intro x hx
  simp only [St.list, List.mem_cons, List.not_mem_nil, or_false] at hx
  rcases hx with rfl | rfl | rfl | rfl | rfl | rfl | rfl | rfl <;> assumption
end Go.Proofs.YtdpijlkhcagfaaaDoor
