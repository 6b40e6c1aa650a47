/-
  The deferred closure of Get, for a frame that panics and one that returns; an answer that both make. Conditions: none.
-/
import Derived.Test.YtjlcaobffhihhaaTrackPDigits
namespace Go.Proofs.Ytjlcaobffhihhaa
set_option linter.unusedVariables false
open Go.ChangeShapes Go.WideShapes Go.ChangeAt Go.RowKit

/-- Behind the digits: what Get answers. -/
def getD (b : List Nat) (l : List Bool) : Except Int (List Nat × Nat) → Except Int (List Nat)
  | .error e => .error e
  | .ok (out, i) => if 77 < out.length then .error 21 else if packL (l.take i) ≠ b then .error 14 else .ok out
theorem get_digX {b : List Nat} (h : ¬ (b.length < 2 ∨ 50 < b.length)) : getX b = getD b (unpackL b) (digX (unpackL b)) := by
  rw [getX, if_neg h, digX]
  by_cases h1 : chAt (unpackL b) 0 ≠ 11
  · rw [if_pos h1, if_pos h1]; rfl
  · rw [if_neg h1, if_neg h1]
    cases hs : scanL (unpackL b) (unpackL b).length 5 [] with
    | error e => rfl
    | ok r =>
      obtain ⟨out, i⟩ := r
      show lastL b (unpackL b) out i = getD b (unpackL b) (endX (unpackL b) (.ok (out, i)))
      rw [lastL, endX]
      split
      · rfl
      · split
        · rfl
        · split
          · rfl
          · rfl
set_option maxRecDepth 100000 in
set_option maxHeartbeats 1600000 in
theorem catch_told (D F : Nat) (hDF : ¬ D = F) (d0 : Value) (e0 E : Int) (tD tF : TypeId) (w : World) (hd : w.heap[D]? = some (.cells #[d0] tD (0, 0))) (hf : w.heap[F]? = some (.cells #[.int .i64 e0] tF (0, 0))) :
    CallsD Try.prog 25 #[.pointer (some ⟨D, 0, none⟩), .pointer (some ⟨F, 0, none⟩)] (.panicking (told E)) w fun e u' w' =>
      e = .returned (.tuple #[]) ∧ u' = .panicking [{ v := .iface 27 (.int .i64 E), recovered := true }] ∧ w'.heap[D]? = some (.cells #[.slice none 0 0] tD (0, 0)) ∧ w'.heap[F]? = some (.cells #[.int .i64 E] tF (0, 0)) ∧ ∀ B, B ≤ D → B ≤ F → Below B w w' := by
  have c0 : w.cell? ⟨D, 0, none⟩ = some d0 := cell_of_row w D 0 _ _ _ hd
  have c1 : w.cell? ⟨F, 0, none⟩ = some (.int .i64 e0) := cell_of_row w F 0 _ _ _ hf
  have f0 : w.frozen? ⟨D, 0, none⟩ = false := frozen_of_row w D 0 _ _ hd
  have f1 : w.frozen? ⟨F, 0, none⟩ = false := frozen_of_row w F 0 _ _ hf
  refine callsD_of_wpS Try.func25 rfl fun c₀ cs hu => ?_
  unfold told at hu
  apply wpS_seq
  apply wpS_region
  simp [wpOpsS, go_sem, recoverD, hu, Try.ntmps25, Exit.thenS]
  refine wpS_of_wp ?_
  have hneq : ∀ w : World, (binOp BinOp.neq 20 (.iface 27 (.int .i64 E)) .nilIface).run Try.prog w = .ok (.bool true) w := fun _ => by first | rfl | kernel_rfl
  change Code.wp _ _ _ { tmps := #[.pointer (some ⟨D, 0, none⟩), .pointer (some ⟨F, 0, none⟩), .iface 27 (.int .i64 E), .iface 27 (.int .i64 E), undef, undef, undef, undef], defers := [] } w
  go_wp2
  have hta : ∀ w : World, (Instr.typeAssert (.iface 27 (.int .i64 E)) 20 27 false).run Try.prog w = .ok (.int .i64 E) w := fun _ => by first | rfl | kernel_rfl
  have hFD : ¬ F = D := fun e => hDF e.symm
  go_region
  go_wp2
  refine ⟨rfl, _, rfl, .tuple #[], by simp [results, Try.results25], rfl, rfl, ?_, ?_, ?_⟩
  · show (World.setCell (World.setCell w _ _) _ _).heap[D]? = _
    rw [heap_setCell_other _ _ _ _ hDF]
    exact heap_setCell_same w D 0 _ _ _ hd
  · show (World.setCell (World.setCell w _ _) _ _).heap[F]? = _
    exact heap_setCell_same _ F 0 _ _ _ ((heap_setCell_other w _ _ _ hFD).trans hf)
  · intro B h1 h2
    exact (((Below.refl B w).setCell (p := ⟨D, 0, none⟩) h1 _).setCell (p := ⟨F, 0, none⟩) h2 _).drew
set_option maxRecDepth 100000 in
set_option maxHeartbeats 1600000 in
theorem catch_idle (p q : Addr) (w : World) :
    CallsD Try.prog 25 #[.pointer (some p), .pointer (some q)] .returning w fun e u' w' => e = .returned (.tuple #[]) ∧ u' = .returning ∧ w' = w := by
  refine callsD_of_wpS Try.func25 rfl fun c₀ cs hu => ?_
  apply wpS_seq
  apply wpS_region
  simp [wpOpsS, go_sem, recoverD, hu, Try.ntmps25, Exit.thenS]
  refine wpS_of_wp ?_
  have hneq : ∀ w : World, (binOp BinOp.neq 20 .nilIface .nilIface).run Try.prog w = .ok (.bool false) w := fun _ => by first | rfl | kernel_rfl
  change Code.wp _ _ _ { tmps := #[.pointer (some p), .pointer (some q), .nilIface, .nilIface, undef, undef, undef, undef], defers := [] } w
  go_wp2
  refine ⟨rfl, .returning, ?_, .tuple #[], by simp [results, Try.results25], rfl, rfl, rfl⟩
  cases c₀
  simp_all
end Go.Proofs.Ytjlcaobffhihhaa
