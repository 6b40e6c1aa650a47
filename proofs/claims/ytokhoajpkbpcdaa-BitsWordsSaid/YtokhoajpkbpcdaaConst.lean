/-
  The calls that the statements' constant check makes, each at its own literals. Conditions: none.
-/
import Derived.Test.YtokhoajpkbpcdaaBytes
import Derived.Test.YtokhoajpkbpcdaaGet
namespace Go.Proofs.Ytokhoajpkbpcdaa
set_option linter.unusedVariables false
open Go.ChangeShapes Go.WideShapes Go.ChangeAt Go.RowKit

theorem at_add (g k : Nat) : (⟨g, 0, none⟩ : Addr).add k = ⟨g, k, none⟩ := by
  unfold Addr.add
  split
  · next h => subst h; rfl
  · simp
/-- What a call owns can be read. -/
theorem Rd.of_own {w : World} {base : Nat} {e : TypeId} {g n cap : Nat} {xs : List Value} (h : w.ownsRow base e 1 (.slice (some ⟨g, 0, none⟩) n cap) n xs) : Rd w w.heap.size (some ⟨g, 0, none⟩) xs := by
  intro k u hu
  refine ⟨_, rfl, ?_, ?_⟩
  · rcases h.2 with ⟨h', _⟩ | ⟨g', cap', cur, h', _, hg, _⟩
    · simp at h'
    · simp only [Value.slice.injEq, Option.some.injEq, Addr.mk.injEq, and_true, true_and] at h'
      obtain ⟨rfl, rfl⟩ := h'
      rcases Nat.lt_or_ge g w.heap.size with hlt | hge
      · exact hlt
      · rw [Array.getElem?_eq_none hge] at hg; cases hg
  · have hk : k < xs.length := by
      rcases Nat.lt_or_ge k xs.length with hlt | hge
      · exact hlt
      · rw [List.getElem?_eq_none hge] at hu; cases hu
    have h1 := h.1
    rw [at_add, h.cellAt k (by omega)]
    exact hu
/-- A literal that was just laid can be read. -/
theorem rd_lit (w : World) (cs : Array Value) (t : TypeId) : Rd (w.alloc (.cells cs t)) (w.alloc (.cells cs t)).heap.size (some ⟨w.heap.size, 0, none⟩) cs.toList := by
  intro k u hu
  refine ⟨_, rfl, by simp, ?_⟩
  rw [at_add, cell_of_row (w.alloc (.cells cs t)) w.heap.size k cs t (0, 0) (heap_alloc_new w _)]
  simpa using hu
theorem below_lit (w : World) (cs : Array Value) (t : TypeId) : Below w.heap.size w (w.alloc (.cells cs t)) := (Below.refl _ _).alloc (Nat.le_refl _) _
theorem Rd.next {w w' : World} {A : Option Addr} {xs : List Value} (h : Rd w w.heap.size A xs) (hb : Below w.heap.size w w') : Rd w' w'.heap.size A xs := (h.below hb).more hb.size
theorem below_after {w w' : World} (cs : Array Value) (t : TypeId) (h : Below (w.alloc (.cells cs t)).heap.size (w.alloc (.cells cs t)) w') : Below w.heap.size w w' :=
  (below_lit w cs t).trans (h.mono (by simp))

theorem t_words (w : World) : Calls Try.prog 11 #[.slice (some ⟨w.heap.size, 0, none⟩) 8 8] (w.alloc (.cells #[.int .u8 1, .int .u8 2, .int .u8 3, .int .u8 4, .int .u8 255, .int .u8 0, .int .u8 0, .int .u8 128] 5))
    fun e w' => ∃ g cap, e = .returned (.tuple #[.slice (some ⟨g, 0, none⟩) 2 cap, .int .i64 0]) ∧ Rd w' w'.heap.size (some ⟨g, 0, none⟩) (U32 [16909060, 4278190208]) ∧ Below w.heap.size w w' := by
  refine (words_ok [1, 2, 3, 4, 255, 0, 0, 128] (some ⟨w.heap.size, 0, none⟩) 8 _ (rd_lit w _ _) (by decide) (by decide) (by decide)).mono ?_
  rintro e w' ⟨g, cap, rfl, hown, hb⟩
  exact ⟨g, cap, rfl, Rd.of_own hown, below_after _ _ hb⟩
theorem t_words_bad (w : World) : Calls Try.prog 11 #[.slice (some ⟨w.heap.size, 0, none⟩) 3 3] (w.alloc (.cells #[.int .u8 1, .int .u8 2, .int .u8 3] 5))
    fun e w' => e = .returned (.tuple #[.slice none 0 0, .int .i64 1]) ∧ Below w.heap.size w w' := by
  refine (words_bad [1, 2, 3] (some ⟨w.heap.size, 0, none⟩) 3 _ (by decide) (by decide)).mono ?_
  rintro e w' ⟨rfl, rfl⟩
  exact ⟨rfl, below_lit _ _ _⟩
theorem t_put (w : World) : Calls Try.prog 17 #[.int .i64 258, .int .i64 3] w
    fun e w' => ∃ g cap, e = .returned (.tuple #[.slice (some ⟨g, 0, none⟩) 3 cap, .int .i64 0]) ∧ Rd w' w'.heap.size (some ⟨g, 0, none⟩) (U8 [0, 1, 2]) ∧ Below w.heap.size w w' := by
  refine (put_ok 258 3 w (by decide) (by decide) (by decide)).mono ?_
  rintro e w' ⟨g, cap, rfl, hown, hb⟩
  exact ⟨g, cap, rfl, Rd.of_own hown, hb⟩
theorem t_put_over (w : World) : Calls Try.prog 17 #[.int .i64 256, .int .i64 1] w fun e w' => e = .returned (.tuple #[.slice none 0 0, .int .i64 23]) ∧ w = w' :=
  put_over 256 1 w (by decide) (by decide) (by decide)
theorem t_put_arg (w : World) : Calls Try.prog 17 #[.int .i64 1, .int .i64 9] w fun e w' => e = .returned (.tuple #[.slice none 0 0, .int .i64 1]) ∧ w = w' :=
  put_arg 1 9 w (by omega)
theorem t_get (w : World) : Calls Try.prog 19 #[.slice (some ⟨w.heap.size, 0, none⟩) 3 3] (w.alloc (.cells #[.int .u8 0, .int .u8 1, .int .u8 2] 5))
    fun e w' => e = .returned (.tuple #[.int .i64 258, .int .i64 0]) ∧ Below w.heap.size w w' := by
  refine (get_ok [0, 1, 2] (some ⟨w.heap.size, 0, none⟩) 3 _ _ (rd_lit w _ _) (by decide) (by decide) (by decide)).mono ?_
  rintro e w' ⟨rfl, rfl⟩
  exact ⟨rfl, below_lit _ _ _⟩
theorem t_get_over (w : World) : Calls Try.prog 19 #[.slice (some ⟨w.heap.size, 0, none⟩) 8 8] (w.alloc (.cells #[.int .u8 128, .int .u8 0, .int .u8 0, .int .u8 0, .int .u8 0, .int .u8 0, .int .u8 0, .int .u8 0] 5))
    fun e w' => e = .returned (.tuple #[.int .i64 0, .int .i64 23]) ∧ Below w.heap.size w w' := by
  refine (get_over [128, 0, 0, 0, 0, 0, 0, 0] (some ⟨w.heap.size, 0, none⟩) 8 _ _ (rd_lit w _ _) (by decide) (by decide)).mono ?_
  rintro e w' ⟨rfl, rfl⟩
  exact ⟨rfl, below_lit _ _ _⟩
theorem t_samew (w : World) (A : Option Addr) (c : Nat) (h : Rd w w.heap.size A (U32 [16909060, 4278190208])) :
    Calls Try.prog 13 #[.slice A 2 c, .slice (some ⟨w.heap.size, 0, none⟩) 2 2] (w.alloc (.cells #[.int .u32 16909060, .int .u32 4278190208] 22)) fun e w' => e = .returned (.bool true) ∧ Below w.heap.size w w' := by
  refine (samew_eq [16909060, 4278190208] A _ c 2 _ _ (h.next (below_lit w _ _)) (rd_lit w _ _) (by decide)).mono ?_
  rintro e w' ⟨rfl, hb⟩
  exact ⟨rfl, below_after _ _ hb⟩
theorem t_same (w : World) (A : Option Addr) (c : Nat) (h : Rd w w.heap.size A (U8 [0, 1, 2])) :
    Calls Try.prog 14 #[.slice A 3 c, .slice (some ⟨w.heap.size, 0, none⟩) 3 3] (w.alloc (.cells #[.int .u8 0, .int .u8 1, .int .u8 2] 5)) fun e w' => e = .returned (.bool true) ∧ Below w.heap.size w w' := by
  refine (same_eq [0, 1, 2] A _ c 3 _ _ (h.next (below_lit w _ _)) (rd_lit w _ _) (by decide)).mono ?_
  rintro e w' ⟨rfl, hb⟩
  exact ⟨rfl, below_after _ _ hb⟩
theorem t_same4 (w : World) (A : Option Addr) (c : Nat) (h : Rd w w.heap.size A (U8 [1, 2, 3, 4])) :
    Calls Try.prog 14 #[.slice A 4 c, .slice (some ⟨w.heap.size, 0, none⟩) 4 4] (w.alloc (.cells #[.int .u8 1, .int .u8 2, .int .u8 3, .int .u8 4] 5)) fun e w' => e = .returned (.bool true) ∧ Below w.heap.size w w' := by
  refine (same_eq [1, 2, 3, 4] A _ c 4 _ _ (h.next (below_lit w _ _)) (rd_lit w _ _) (by decide)).mono ?_
  rintro e w' ⟨rfl, hb⟩
  exact ⟨rfl, below_after _ _ hb⟩
theorem t_bytes (w : World) : Calls Try.prog 15 #[.slice (some ⟨w.heap.size, 0, none⟩) 1 1] (w.alloc (.cells #[.int .u32 16909060] 22))
    fun e w' => ∃ g cap, e = .returned (.slice (some ⟨g, 0, none⟩) 4 cap) ∧ Rd w' w'.heap.size (some ⟨g, 0, none⟩) (U8 [1, 2, 3, 4]) ∧ Below w.heap.size w w' := by
  refine (bytes_ok [16909060] (some ⟨w.heap.size, 0, none⟩) 1 _ (rd_lit w _ _) (by decide) (by decide)).mono ?_
  rintro e w' ⟨g, cap, rfl, hown, hb⟩
  exact ⟨g, cap, rfl, Rd.of_own hown, below_after _ _ hb⟩
theorem t_rot1 (w : World) : Calls Try.prog 9 #[.int .u32 1, .int .i64 1] w fun e w' => e = .returned (.int .u32 2147483648) ∧ w = w' := rot_any 1 1 w (by decide) (by decide) (by decide)
theorem t_rot6 (w : World) : Calls Try.prog 9 #[.int .u32 6, .int .i64 1] w fun e w' => e = .returned (.int .u32 3) ∧ w = w' := rot_any 6 1 w (by decide) (by decide) (by decide)
theorem t_rot3 (w : World) : Calls Try.prog 9 #[.int .u32 3, .int .i64 (-1)] w fun e w' => e = .returned (.int .u32 6) ∧ w = w' := rot_any 3 (-1) w (by decide) (by decide) (by decide)
end Go.Proofs.Ytokhoajpkbpcdaa
