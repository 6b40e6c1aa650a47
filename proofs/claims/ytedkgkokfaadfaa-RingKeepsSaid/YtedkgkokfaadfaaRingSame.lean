/-
  Contract for the reference's Same: whether two keys are the same. Conditions: the secrets read as bytes.
-/
import Derived.Test.YtedkgkokfaadfaaRingMem
import Derived.Test.YtedkgkokfaadfaaSameAny
namespace Go.Proofs.Ytedkgkokfaadfaa
set_option linter.unusedVariables false
open Go.ChangeShapes Go.WideShapes Go.ChangeAt Go.RowKit

/-- A key as a value. -/
def K.val (k : K) (S : Option Addr) (n c : Nat) : Value := .agg #[.int .i64 k.id, .slice S n c, .int .i64 k.frm, .int .i64 k.til]
theorem same_named (l : List Nat) (n : Nat) (hn : n = l.length) (A A' : Option Addr) (c c' B : Nat) (w : World) (hA : Rd w B A (U8 l)) (hA' : Rd w B A' (U8 l)) (hl : n ≤ 9223372036854775807) :
    Calls Try.prog 24 #[.slice A n c, .slice A' n c'] w fun e w' => e = .returned (.bool true) ∧ Below w.heap.size w w' := by
  subst hn
  exact same_eq l A A' c c' B w hA hA' (by unfold maxLen; exact hl)
set_option maxRecDepth 20000 in
theorem refsame_key (a : K) (n : Nat) (hn : n = a.sec.length) (S S' : Option Addr) (c c' B : Nat) (w : World) (hA : Rd w B S (U8 a.sec)) (hA' : Rd w B S' (U8 a.sec)) (h1 : n ≤ 9223372036854775807) (hB : B ≤ w.heap.size) :
    Calls Try.prog 14 #[.agg #[.int .i64 a.id, .slice S n c, .int .i64 a.frm, .int .i64 a.til], .agg #[.int .i64 a.id, .slice S' n c', .int .i64 a.frm, .int .i64 a.til]] w fun e w' => e = .returned (.bool true) ∧ Below w.heap.size w w' := by
  have HN := Lib.hid hn
  have HA := Lib.hid hA
  have HA' := Lib.hid hA'
  clear hn hA hA'
  go_enter Try.func14, Try.ntmps14
  go_wp2_with fail
  obtain ⟨X, hX⟩ : ∃ X : Array Value, X = #[.int .i64 a.id, .slice S n c, .int .i64 a.frm, .int .i64 a.til] := ⟨_, rfl⟩
  obtain ⟨Y, hY⟩ : ∃ Y : Array Value, Y = #[.int .i64 a.id, .slice S' n c', .int .i64 a.frm, .int .i64 a.til] := ⟨_, rfl⟩
  rw [← hX, ← hY]
  have hb0 := below_lit w X 26
  have hb1 := below_lit (w.alloc (.cells X 26)) Y 26
  have hb2 := hb0.trans (hb1.mono (by simp))
  refine (same_named a.sec n HN.out S S' c c' B _ (HA.out.below (hb2.mono hB)) (HA'.out.below (hb2.mono hB)) h1).mono ?_
  rintro e w1 ⟨rfl, hbl⟩
  have hx : w1.heap[w.heap.size]? = some (.cells X 26 (0, 0)) := (hbl.block _ (by simp; omega)).trans ((Below.heap_alloc _ _ _ (by simp)).trans (heap_alloc_new w _))
  have hy : w1.heap[w.heap.size + 1]? = some (.cells Y 26 (0, 0)) := (hbl.block _ (by simp)).trans (by
    have h := heap_alloc_new (w.alloc (.cells X 26)) (.cells Y 26)
    simpa using h)
  have hx2 : w1.cell? ⟨w.heap.size, 2, none⟩ = some (.int .i64 a.frm) := by rw [cell_of_row w1 _ 2 _ _ (0, 0) hx, hX]; rfl
  have hx3 : w1.cell? ⟨w.heap.size, 3, none⟩ = some (.int .i64 a.til) := by rw [cell_of_row w1 _ 3 _ _ (0, 0) hx, hX]; rfl
  have hy2 : w1.cell? ⟨w.heap.size + 1, 2, none⟩ = some (.int .i64 a.frm) := by rw [cell_of_row w1 _ 2 _ _ (0, 0) hy, hY]; rfl
  have hy3 : w1.cell? ⟨w.heap.size + 1, 3, none⟩ = some (.int .i64 a.til) := by rw [cell_of_row w1 _ 3 _ _ (0, 0) hy, hY]; rfl
  have HBL := Lib.hid (hb2.trans (hbl.mono (by simp; omega)))
  clear hx hy hb0 hb1 hb2 hbl hX hY
  go_wp2_with fail
  go_ret
  exact ⟨by simp, HBL.out⟩
end Go.Proofs.Ytedkgkokfaadfaa
