/-
  Law LayoutBack walked: it answers true. Conditions: the numbers fit an int; the slice reads as bytes.
-/
import Derived.Test.YtpeccmcojocgkaaLayOK
import Derived.Test.YtpeccmcojocgkaaLayPPut
import Derived.Test.YtpeccmcojocgkaaLayPGet
namespace Go.Proofs.Ytpeccmcojocgkaa
set_option linter.unusedVariables false
open Go.ChangeShapes Go.WideShapes Go.ChangeAt Go.RowKit

theorem put_in {r : Rg} {p : List Nat} (h : lputX r = (0, p)) : InR r := by
  obtain ⟨ha, hf, _⟩ := lput_ok h
  obtain ⟨ho, hs, h1, h2, h3⟩ := (argB_iff r).1 ha
  obtain ⟨h4, h5⟩ := (fitB_iff r).1 hf
  obtain ⟨n1, n2, n3, n4⟩ := (okT_iff r.t).1 ho
  have m1 := (numsB_iff r.t).1 n1
  have m2 := (daysB_iff r.t).1 n2
  have m4 := (suitB_iff _ _ _).1 hs
  have hu := uses_of ho
  have m5 : 0 ≤ r.t.uses ∧ r.t.uses ≤ 20 := by
    by_cases hk : r.t.kind = 4
    · have := hu.1 hk; omega
    · rw [hu.2 hk]
      rcases (show r.t.kind = 1 ∨ r.t.kind = 2 ∨ r.t.kind = 3 by omega) with h | h | h <;> rw [h] <;> decide
  have m6 : 0 ≤ r.t.frm ∧ r.t.frm ≤ 39 ∧ 0 ≤ r.t.till ∧ r.t.till ≤ 39 := by
    by_cases hk : r.t.kind = 3
    · have := zones_of ho hk; omega
    · obtain ⟨w1, w2, _⟩ := way_of ho hk
      have := (isN_iff _).1 w1
      have := (isN_iff _).1 w2
      omega
  intro x hx
  unfold rgL at hx
  simp only [List.mem_cons, List.not_mem_nil, or_false] at hx
  rcases hx with rfl | rfl | rfl | rfl | rfl | rfl | rfl | rfl | rfl | rfl | rfl | rfl | rfl | rfl | rfl <;> (unfold In64; omega)
set_option maxRecDepth 100000 in
set_option maxHeartbeats 1600000 in
theorem lget_zero (l : List Nat) (n : Nat) (hn : n = l.length) (E : Int) (hE : lgetX l = (E, zeroR)) (A : Option Addr) (c : Nat) (w : World) (hA : Bs w w.heap.size l A c) : Calls Try.prog 17 #[.slice A n c] w fun e w' => e = .returned (.tuple #[.agg #[.int .i64 0, .int .i64 0, .int .i64 0, .int .i64 0, .int .i64 0, .int .i64 0, .int .i64 0, .int .i64 0, .int .i64 0, .int .i64 0, .int .i64 0, .int .i64 0, .int .i64 0, .int .i64 0, .int .i64 0], .int .i64 E]) ∧ Below w.heap.size w w' := lget_any l n hn E zeroR hE A c w hA
end Go.Proofs.Ytpeccmcojocgkaa
