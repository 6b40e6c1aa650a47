/-
  A literal of bytes as a slice; the reference's comparison of bytes, by slices as they read. Conditions: none.
-/
import Derived.Test.YtaldpioahnbkgaaBase
import Derived.Test.YtaldpioahnbkgaaSameAny
namespace Go.Proofs.Ytaldpioahnbkgaa
set_option linter.unusedVariables false
open Go.ChangeShapes Go.WideShapes Go.ChangeAt Go.RowKit

theorem bs_lit (w : World) (cs : Array Value) (s : List Nat) (n : Nat) (h : cs.toList = U8 s) (hn : n = s.length) (h1 : n ≤ 1000) (h2 : ∀ x ∈ s, x < 256) : Bs (w.alloc (.cells cs 5)) (w.alloc (.cells cs 5)).heap.size s (some ⟨w.heap.size, 0, none⟩) n :=
  ⟨by rw [← h]; exact rd_lit w cs _, by simp, by omega, by omega, h2⟩
set_option maxRecDepth 100000 in
set_option maxHeartbeats 1600000 in
theorem same_true (s : List Nat) (n n' : Nat) (hn : n = s.length) (hn' : n' = s.length) (A A' : Option Addr) (c c' : Nat) (w : World) (hA : Bs w w.heap.size s A c) (hA' : Bs w w.heap.size s A' c') : Calls Try.prog 31 #[.slice A n c, .slice A' n' c'] w fun e w' => e = .returned (.bool true) ∧ Below w.heap.size w w' := by
  have h1 := hA.len
  have h2 := hA.cap
  have := same_any s s n n' hn hn' A A' c c' w.heap.size w hA.rd hA'.rd (by omega) (by omega)
  simpa using this
set_option maxRecDepth 100000 in
set_option maxHeartbeats 1600000 in
theorem same_told (s s' : List Nat) (t : Bool) (ht : (s == s') = t) (n n' : Nat) (hn : n = s.length) (hn' : n' = s'.length) (A A' : Option Addr) (c c' : Nat) (w : World) (hA : Bs w w.heap.size s A c) (hA' : Bs w w.heap.size s' A' c') : Calls Try.prog 31 #[.slice A n c, .slice A' n' c'] w fun e w' => e = .returned (.bool t) ∧ Below w.heap.size w w' := by
  have h1 := hA.len
  have h2 := hA.cap
  have h3 := hA'.len
  have h4 := hA'.cap
  rw [← ht]
  exact same_any s s' n n' hn hn' A A' c c' w.heap.size w hA.rd hA'.rd (by omega) (by omega)
end Go.Proofs.Ytaldpioahnbkgaa
