/-
  Contracts for the landed next: the first field of what is left, or what is told. Conditions: the reader lies in a box of its own, behind its bytes.
-/
import Derived.Test.YtkjghmonpdbjeaaTlvMem
import Derived.IntWalk
namespace Go.Proofs.Ytkjghmonpdbjeaa
set_option linter.unusedVariables false
open Go.ChangeShapes Go.WideShapes Go.ChangeAt Go.RowKit

/-- The reader in its box: what is left, the tag ahead. -/
def RdBox (w : World) (X : Nat) (A : Option Addr) (m c a : Nat) : Prop := w.heap[X]? = some (.cells #[.slice A m c, .int .i64 (a : Int)] 43 (0, 0))
theorem RdBox.lt {w : World} {X : Nat} {A : Option Addr} {m c a : Nat} (h : RdBox w X A m c a) : X < w.heap.size := (Array.getElem?_eq_some_iff.1 h).1
theorem RdBox.c0 {w : World} {X : Nat} {A : Option Addr} {m c a : Nat} (h : RdBox w X A m c a) : w.cell? ⟨X, 0, none⟩ = some (.slice A m c) := cell_of_row w X 0 _ _ _ h
theorem RdBox.c1 {w : World} {X : Nat} {A : Option Addr} {m c a : Nat} (h : RdBox w X A m c a) : w.cell? ⟨X, 1, none⟩ = some (.int .i64 (a : Int)) := cell_of_row w X 1 _ _ _ h
theorem RdBox.fz {w : World} {X : Nat} {A : Option Addr} {m c a : Nat} (h : RdBox w X A m c a) (j : Nat) : w.frozen? ⟨X, j, none⟩ = false := frozen_of_row w X j _ _ h
theorem RdBox.next {w w' : World} {X : Nat} {A : Option Addr} {m c a : Nat} (h : RdBox w X A m c a) (hb : Below w.heap.size w w') : RdBox w' X A m c a := (hb.block X h.lt).trans h
/-- What the first bytes tell: 0, if a field. -/
def stepT (a : Nat) : List Nat → Nat
  | [] => 20
  | [_] => 14
  | t :: n :: r => if t ≤ a then 13 else if r.length < n then 14 else 0
theorem info_fld : (Try.prog.info? 40).map (·.size) = some 2 := by kernel_rfl
set_option maxRecDepth 100000 in
set_option maxHeartbeats 1600000 in
theorem pnext_none (c a X : Nat) (A : Option Addr) (w : World) (hK : RdBox w X A 0 c a) :
    Calls Try.prog 25 #[.pointer (some ⟨X, 0, none⟩)] w fun e w' => e = .returned (.tuple #[.agg #[.int .i64 0, .slice none 0 0], .int .i64 20]) ∧ Below w.heap.size w w' := by
  have hX := hK.lt
  have c0 := hK.c0
  have c1 := hK.c1
  have HK := Lib.hid hK
  clear hK
  go_enter Try.func25, Try.ntmps25
  go_wp2
  exact bodyPost_ret (results_row_tmp' Try.results25 _ _ w.heap.size 40 #[.int .i64 0, .slice none 0 0] (0, 0) _ rfl (heap_alloc_new w _) Try.underlying40 rfl info_fld) rfl ⟨rfl, below_lit w _ _⟩
set_option maxRecDepth 100000 in
set_option maxHeartbeats 1600000 in
theorem pnext_one (c a X : Nat) (A : Option Addr) (w : World) (hK : RdBox w X A 1 c a) :
    Calls Try.prog 25 #[.pointer (some ⟨X, 0, none⟩)] w fun e w' => e = .returned (.tuple #[.agg #[.int .i64 0, .slice none 0 0], .int .i64 14]) ∧ Below w.heap.size w w' := by
  have hX := hK.lt
  have c0 := hK.c0
  have c1 := hK.c1
  have HK := Lib.hid hK
  clear hK
  go_enter Try.func25, Try.ntmps25
  go_wp2
  exact bodyPost_ret (results_row_tmp' Try.results25 _ _ w.heap.size 40 #[.int .i64 0, .slice none 0 0] (0, 0) _ rfl (heap_alloc_new w _) Try.underlying40 rfl info_fld) rfl ⟨rfl, below_lit w _ _⟩
/-- A field that is stored into its block, cell by cell. -/
theorem fld_cells {w : World} {g : Nat} {x0 x1 v0 v1 : Value} {t : TypeId} (h : w.heap[g]? = some (.cells #[x0, x1] t (0, 0))) : ((w.setCell ⟨g, 0, none⟩ v0).setCell ⟨g, 1, none⟩ v1).heap[g]? = some (.cells #[v0, v1] t (0, 0)) :=
  heap_setCell_same _ g 1 _ _ _ (heap_setCell_same w g 0 _ _ _ h)
/-- Two bytes ahead. -/
theorem two_ahead {w : World} {X t n c : Nat} {r : List Nat} {A : Option Addr} (h : Bs w X (t :: n :: r) A c) : ∃ ad, A = some ad ∧ ad.block < X ∧ w.cell? ad = some (.int .u8 (t : Int)) ∧ w.cell? ⟨ad.block, ad.off + 1, none⟩ = some (.int .u8 (n : Int)) ∧ t < 256 ∧ n < 256 := by
  obtain ⟨ad, rfl, hlt, hc⟩ := h.rd 0 (.int .u8 (t : Int)) rfl
  obtain ⟨ad', e, _, hc'⟩ := h.rd 1 (.int .u8 (n : Int)) rfl
  cases e
  rw [add_zero'] at hc
  have e1 : ad.add 1 = ⟨ad.block, ad.off + 1, none⟩ := by unfold Addr.add; simp
  rw [e1] at hc'
  exact ⟨ad, rfl, hlt, hc, hc', h.lt t (by simp), h.lt n (by simp)⟩
set_option maxRecDepth 100000 in
set_option maxHeartbeats 1600000 in
theorem pnext_order (t n : Nat) (r : List Nat) (m : Nat) (hm : m = r.length + 2) (c a X : Nat) (A : Option Addr) (w : World) (hK : RdBox w X A m c a) (hA : Bs w X (t :: n :: r) A c) (h : t ≤ a) :
    Calls Try.prog 25 #[.pointer (some ⟨X, 0, none⟩)] w fun e w' => e = .returned (.tuple #[.agg #[.int .i64 0, .slice none 0 0], .int .i64 13]) ∧ Below w.heap.size w w' := by
  obtain ⟨ad, rfl, hlt, ht, hn, ht2, hn2⟩ := two_ahead hA
  have hX := hK.lt
  have c0 := hK.c0
  have c1 := hK.c1
  have lk := World.block_lt_of_cell? w _ ht
  have lk2 := World.block_lt_of_cell? w _ hn
  have hmc : m ≤ c := by have := hA.len; simp only [List.length_cons] at this; omega
  have hcc := hA.cap
  have m2 : (2 : Int) ≤ (m : Int) := by omega
  have m0 : ((m : Int) == 0) = false := by rw [beq_eq_false_iff_ne]; omega
  have m0' : (m == 0) = false := by rw [beq_eq_false_iff_ne]; omega
  have m0n : 0 < m := by omega
  have m1n : 1 < m := by omega
  have m1i : (1 : Int) < (m : Int) := by omega
  have wt : IntKind.i64.wrap (t : Int) = (t : Int) := IntWalk.i64_in _ (by omega)
  have wn : IntKind.i64.wrap (n : Int) = (n : Int) := IntWalk.i64_in _ (by omega)
  have wn2 : IntKind.i64.wrap (2 + (n : Int)) = 2 + (n : Int) := IntWalk.i64_in _ (by omega)
  have hta : (t : Int) ≤ (a : Int) := by omega
  have HK := Lib.hid hK
  clear hK hA hm
  go_enter Try.func25, Try.ntmps25
  go_wp2
  go_quiet (fail)
  go_wp2
  exact bodyPost_ret (results_row_tmp' Try.results25 _ _ w.heap.size 40 #[.int .i64 0, .slice none 0 0] (0, 0) _ rfl (fld_cells (heap_alloc_new w _)) Try.underlying40 rfl info_fld) rfl ⟨rfl, ((below_drewN (below_lit w _ _) _).setCell (Nat.le_refl _) _).setCell (Nat.le_refl _) _⟩
set_option maxRecDepth 100000 in
set_option maxHeartbeats 1600000 in
theorem pnext_over (t n : Nat) (r : List Nat) (m : Nat) (hm : m = r.length + 2) (c a X : Nat) (A : Option Addr) (w : World) (hK : RdBox w X A m c a) (hA : Bs w X (t :: n :: r) A c) (h : a < t) (h2 : r.length < n) :
    Calls Try.prog 25 #[.pointer (some ⟨X, 0, none⟩)] w fun e w' => e = .returned (.tuple #[.agg #[.int .i64 0, .slice none 0 0], .int .i64 14]) ∧ Below w.heap.size w w' := by
  obtain ⟨ad, rfl, hlt, ht, hn, ht2, hn2⟩ := two_ahead hA
  have hX := hK.lt
  have c0 := hK.c0
  have c1 := hK.c1
  have lk := World.block_lt_of_cell? w _ ht
  have lk2 := World.block_lt_of_cell? w _ hn
  have hmc : m ≤ c := by have := hA.len; simp only [List.length_cons] at this; omega
  have hcc := hA.cap
  have m2 : (2 : Int) ≤ (m : Int) := by omega
  have m0 : ((m : Int) == 0) = false := by rw [beq_eq_false_iff_ne]; omega
  have m0' : (m == 0) = false := by rw [beq_eq_false_iff_ne]; omega
  have m0n : 0 < m := by omega
  have m1n : 1 < m := by omega
  have m1i : (1 : Int) < (m : Int) := by omega
  have wt : IntKind.i64.wrap (t : Int) = (t : Int) := IntWalk.i64_in _ (by omega)
  have wn : IntKind.i64.wrap (n : Int) = (n : Int) := IntWalk.i64_in _ (by omega)
  have wn2 : IntKind.i64.wrap (2 + (n : Int)) = 2 + (n : Int) := IntWalk.i64_in _ (by omega)
  have hta : ¬ (t : Int) ≤ (a : Int) := by omega
  have hov : (m : Int) < 2 + (n : Int) := by omega
  have HK := Lib.hid hK
  clear hK hA hm
  go_enter Try.func25, Try.ntmps25
  go_wp2
  go_quiet (fail)
  go_wp2
  exact bodyPost_ret (results_row_tmp' Try.results25 _ _ w.heap.size 40 #[.int .i64 0, .slice none 0 0] (0, 0) _ rfl (fld_cells (heap_alloc_new w _)) Try.underlying40 rfl info_fld) rfl ⟨rfl, ((below_drewN (below_lit w _ _) _).setCell (Nat.le_refl _) _).setCell (Nat.le_refl _) _⟩
end Go.Proofs.Ytkjghmonpdbjeaa
