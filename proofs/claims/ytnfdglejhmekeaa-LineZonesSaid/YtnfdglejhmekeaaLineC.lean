/-
  What the laws of layer 7 want of the five functions of package line: contracts, as one premise. Conditions: none.
-/
import Derived.Test.YtnfdglejhmekeaaLineRefStations
import Derived.Test.YtnfdglejhmekeaaIn64
namespace Go.Proofs.Ytnfdglejhmekeaa
set_option linter.unusedVariables false
open Go.ChangeShapes Go.WideShapes Go.ChangeAt Go.RowKit

structure LC : Prop where
  is : ∀ (s : Int) (b : Bool) (w : World), In64 s → isN s = b → Calls Try.prog 13 #[.int .i64 s] w fun e w' => e = .returned (.bool b) ∧ Below w.heap.size w w'
  zone : ∀ (s z E : Int) (w : World), In64 s → zoneV s = z → zoneE s = E → Calls Try.prog 8 #[.int .i64 s] w fun e w' => e = .returned (.tuple #[.int .i64 z, .int .i64 E]) ∧ Below w.heap.size w w'
  bet : ∀ (a b s : Int) (v : Bool) (E : Int) (w : World), In64 a → In64 b → In64 s → betV a b s = v → betE a b s = E → Calls Try.prog 10 #[.int .i64 a, .int .i64 b, .int .i64 s] w fun e w' => e = .returned (.tuple #[.bool v, .int .i64 E]) ∧ Below w.heap.size w w'
  zones : ∀ (a b x y E : Int) (w : World), In64 a → In64 b → zonesL a b = x → zonesH a b = y → zonesE a b = E → Calls Try.prog 15 #[.int .i64 a, .int .i64 b] w fun e w' => e = .returned (.tuple #[.int .i64 x, .int .i64 y, .int .i64 E]) ∧ Below w.heap.size w w'
  stations : ∀ (low high E : Int) (l : List Nat) (n : Nat) (w : World), In64 low → In64 high → stV low high = l → n = l.length → stE low high = E → Calls Try.prog 17 #[.int .i64 low, .int .i64 high] w fun e w' => ∃ A c, e = .returned (.tuple #[.slice A n c, .int .i64 E]) ∧ Ns w' w'.heap.size l A c ∧ Below w.heap.size w w'
theorem ns_lit (w : World) (cs : Array Value) (l : List Nat) (n : Nat) (h : cs.toList = N64 l) (hn : n = l.length) (h1 : n ≤ 1000) : Ns (w.alloc (.cells cs 3)) (w.alloc (.cells cs 3)).heap.size l (some ⟨w.heap.size, 0, none⟩) n :=
  ⟨by rw [← h]; exact rd_lit w cs _, by simp, by omega, by omega⟩
theorem lined_l : stV 5 6 = [0, 1, 2, 3, 4, 36, 37, 38, 39] ∧ stE 5 6 = 0 ∧ stV 3 2 = [] ∧ stE 3 2 = 1 := ⟨by kernel_rfl, by kernel_rfl, by kernel_rfl, by kernel_rfl⟩
theorem lined_z : zonesL 16 25 = 1 ∧ zonesH 16 25 = 2 ∧ zonesE 16 25 = 0 := ⟨by kernel_rfl, by kernel_rfl, by kernel_rfl⟩
end Go.Proofs.Ytnfdglejhmekeaa
