/-
  The statements' constant check of layer 4 answers true in every world. Conditions: none.
-/
import Derived.Test.YtghepddfjdillaaSealSame
import Derived.Test.YtghepddfjdillaaSameAny
import Derived.Test.YtghepddfjdillaaRefDigits
import Derived.Test.YtghepddfjdillaaCut
namespace Go.Proofs.Ytghepddfjdillaa
set_option linter.unusedVariables false
open Go.ChangeShapes Go.WideShapes Go.ChangeAt Go.RowKit

theorem c_diff (w : World) : Calls Try.prog 7 #[.slice (some ⟨w.heap.size, 0, none⟩) 3 3, .slice (some ⟨w.heap.size + 1, 0, none⟩) 4 4]
    ((w.alloc (.cells #[.int .u8 1, .int .u8 2, .int .u8 3] 5)).alloc (.cells #[.int .u8 1, .int .u8 6, .int .u8 2, .int .u8 9] 5))
    fun e w' => e = .returned (.tuple #[.int .u8 5, .bool false]) ∧ Below w.heap.size w w' := by
  rw [show w.heap.size + 1 = (w.alloc (.cells #[.int .u8 1, .int .u8 2, .int .u8 3] 5)).heap.size by simp]
  refine (diff_named [1, 2, 3] [1, 6, 2, 9] 3 4 rfl rfl _ _ 3 4 _ ((rd_lit w _ _).next (below_lit _ _ _)) (rd_lit _ _ _) (by decide) (by decide) (by decide) (by decide) 5 false (by decide) (by decide)).mono ?_
  rintro e w' ⟨rfl, hb⟩
  exact ⟨rfl, below_after _ _ (below_after _ _ hb)⟩
theorem c_digits (w : World) (n : Int) (l : List Nat) (m : Nat) (hn : n = (m : Int)) (hl : dec m = l) (hm : m ≤ 4294967295) : Calls Try.prog 12 #[.int .i64 n] w
    fun e w' => ∃ g cap, e = .returned (.tuple #[.slice (some ⟨g, 0, none⟩) 10 cap, .int .i64 0]) ∧ Rd w' w'.heap.size (some ⟨g, 0, none⟩) (U8 l) ∧ Below w.heap.size w w' := by
  subst hl hn
  exact digits_ok m w hm
theorem c_same (w : World) (a b : List Nat) (n m : Nat) (xs ys : Array Value) (q : Bool) (hx : xs.toList = U8 a) (hy : ys.toList = U8 b) (hn : n = a.length) (hm : m = b.length) (ha : ∀ x ∈ a, x < 256) (hb : ∀ x ∈ b, x < 256) (h1 : n ≤ 9223372036854775807) (h2 : m ≤ 9223372036854775807) (hq : (a == b) = q) :
    Calls Try.prog 10 #[.slice (some ⟨w.heap.size, 0, none⟩) n n, .slice (some ⟨w.heap.size + 1, 0, none⟩) m m]
    ((w.alloc (.cells xs 5)).alloc (.cells ys 5))
    fun e w' => e = .returned (.bool q) ∧ Below w.heap.size w w' := by
  subst hq
  have r1 := (rd_lit w xs 5).next (below_lit (w.alloc (.cells xs 5)) ys 5)
  have r2 := rd_lit (w.alloc (.cells xs 5)) ys 5
  rw [hx] at r1
  rw [hy] at r2
  rw [show w.heap.size + 1 = (w.alloc (.cells xs 5)).heap.size by simp]
  refine (sealsame_any a b n m hn hm _ _ n m _ r1 r2 ha hb h1 h2).mono ?_
  rintro e w' ⟨rfl, hb⟩
  exact ⟨rfl, below_after _ _ (below_after _ _ hb)⟩
theorem c_same1 (w : World) :
    Calls Try.prog 10 #[.slice (some ⟨w.heap.size, 0, none⟩) 1 1, .slice none 0 0] (w.alloc (.cells #[.int .u8 1] 5)) fun e w' => e = .returned (.bool false) ∧ Below w.heap.size w w' := by
  refine (sealsame_any [1] [] 1 0 rfl rfl _ none 1 0 _ (rd_lit w _ _) (by intro k u hu; simp [U8] at hu) (by decide) (by decide) (by decide) (by decide)).mono ?_
  rintro e w' ⟨rfl, hb⟩
  exact ⟨rfl, below_after _ _ hb⟩
def cutT : List Nat := [1, 2, 3, 4, 5, 0, 0, 0, 0, 0, 0, 0, 0, 0, 0, 0, 0, 0, 0, 0, 0, 0, 0, 0, 0, 0, 0, 0, 0, 0, 0, 0]
theorem c_cut (w : World) (F : Array Value) (hF : F = (U8 cutT).toArray) : Calls Try.prog 14 #[.agg F] w fun e w' => e = .returned (.int .i64 16909060) ∧ Below w.heap.size w w' :=
  cut_any cutT F hF w (by decide) rfl
theorem c_refsame (w : World) (A : Option Addr) (c n : Nat) (l : List Nat) (xs : Array Value) (hx : xs.toList = U8 l) (hn : n = l.length) (hl : n ≤ 9223372036854775807) (h : Rd w w.heap.size A (U8 l)) :
    Calls Try.prog 11 #[.slice A n c, .slice (some ⟨w.heap.size, 0, none⟩) n n] (w.alloc (.cells xs 5)) fun e w' => e = .returned (.bool true) ∧ Below w.heap.size w w' := by
  subst hn
  have r2 := rd_lit w xs 5
  rw [hx] at r2
  refine (same_eq l A _ c l.length _ _ (h.next (below_lit w _ _)) r2 (by unfold maxLen; exact hl)).mono ?_
  rintro e w' ⟨rfl, hb⟩
  exact ⟨rfl, below_after _ _ hb⟩
def dBig : List Nat := [4, 2, 9, 4, 9, 6, 7, 2, 9, 5]
def dSmall : List Nat := [0, 0, 0, 0, 0, 0, 0, 0, 7, 0]
theorem dBig_eq : dec 4294967295 = dBig := by decide
theorem dSmall_eq : dec 70 = dSmall := by decide
theorem c_dbig (w : World) : Calls Try.prog 12 #[.int .i64 4294967295] w
    fun e w' => ∃ g cap, e = .returned (.tuple #[.slice (some ⟨g, 0, none⟩) 10 cap, .int .i64 0]) ∧ Rd w' w'.heap.size (some ⟨g, 0, none⟩) (U8 dBig) ∧ Below w.heap.size w w' :=
  c_digits w 4294967295 dBig 4294967295 (by simp) dBig_eq (Nat.le_refl _)
theorem c_dsmall (w : World) : Calls Try.prog 12 #[.int .i64 70] w
    fun e w' => ∃ g cap, e = .returned (.tuple #[.slice (some ⟨g, 0, none⟩) 10 cap, .int .i64 0]) ∧ Rd w' w'.heap.size (some ⟨g, 0, none⟩) (U8 dSmall) ∧ Below w.heap.size w w' :=
  c_digits w 70 dSmall 70 (by simp) dSmall_eq (by decide)
theorem c_over (w : World) : Calls Try.prog 12 #[.int .i64 4294967296] w fun e w' => e = .returned (.tuple #[.slice none 0 0, .int .i64 1]) ∧ w = w' := digits_arg 4294967296 w (.inr (by decide))
theorem c_refbig (w : World) (A : Option Addr) (c : Nat) (h : Rd w w.heap.size A (U8 dBig)) :
    Calls Try.prog 11 #[.slice A 10 c, .slice (some ⟨w.heap.size, 0, none⟩) 10 10] (w.alloc (.cells #[.int .u8 4, .int .u8 2, .int .u8 9, .int .u8 4, .int .u8 9, .int .u8 6, .int .u8 7, .int .u8 2, .int .u8 9, .int .u8 5] 5)) fun e w' => e = .returned (.bool true) ∧ Below w.heap.size w w' :=
  c_refsame w A c 10 dBig _ rfl rfl (by decide) h
theorem c_refsmall (w : World) (A : Option Addr) (c : Nat) (h : Rd w w.heap.size A (U8 dSmall)) :
    Calls Try.prog 11 #[.slice A 10 c, .slice (some ⟨w.heap.size, 0, none⟩) 10 10] (w.alloc (.cells #[.int .u8 0, .int .u8 0, .int .u8 0, .int .u8 0, .int .u8 0, .int .u8 0, .int .u8 0, .int .u8 0, .int .u8 7, .int .u8 0] 5)) fun e w' => e = .returned (.bool true) ∧ Below w.heap.size w w' :=
  c_refsame w A c 10 dSmall _ rfl rfl (by decide) h
theorem c_same12 (w : World) : Calls Try.prog 10 #[.slice (some ⟨w.heap.size, 0, none⟩) 2 2, .slice (some ⟨w.heap.size + 1, 0, none⟩) 2 2]
    ((w.alloc (.cells #[.int .u8 1, .int .u8 2] 5)).alloc (.cells #[.int .u8 1, .int .u8 2] 5)) fun e w' => e = .returned (.bool true) ∧ Below w.heap.size w w' :=
  c_same w [1, 2] [1, 2] 2 2 #[.int .u8 1, .int .u8 2] #[.int .u8 1, .int .u8 2] true rfl rfl rfl rfl (by decide) (by decide) (by decide) (by decide) (by decide)
theorem c_same13 (w : World) : Calls Try.prog 10 #[.slice (some ⟨w.heap.size, 0, none⟩) 2 2, .slice (some ⟨w.heap.size + 1, 0, none⟩) 2 2]
    ((w.alloc (.cells #[.int .u8 1, .int .u8 2] 5)).alloc (.cells #[.int .u8 1, .int .u8 3] 5)) fun e w' => e = .returned (.bool false) ∧ Below w.heap.size w w' :=
  c_same w [1, 2] [1, 3] 2 2 #[.int .u8 1, .int .u8 2] #[.int .u8 1, .int .u8 3] false rfl rfl rfl rfl (by decide) (by decide) (by decide) (by decide) (by decide)
end Go.Proofs.Ytghepddfjdillaa
