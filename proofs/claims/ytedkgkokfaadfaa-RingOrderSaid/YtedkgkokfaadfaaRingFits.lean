/-
  The three function values that the landed ring hands to last. Conditions: the box that each has captured.
-/
import Derived.Test.YtedkgkokfaadfaaRingLast
namespace Go.Proofs.Ytedkgkokfaadfaa
set_option linter.unusedVariables false
open Go.ChangeShapes Go.WideShapes Go.ChangeAt Go.RowKit

theorem find_fits (id : Int) (b : Nat) (w : World) (h : w.heap[b]? = some (.cells #[.int .i64 id] 3 (0, 0))) : Fits 21 #[.pointer (some ⟨b, 0, none⟩)] (fun q => q.id == id) w := by
  intro W q hB
  have hb : W.heap[b]? = some (.cells #[.int .i64 id] 3 (0, 0)) := (hB.block _ (Array.getElem?_eq_some_iff.1 h).1).trans h
  have hc : W.cell? ⟨b, 0, none⟩ = some (.int .i64 id) := by rw [cell_of_row W b 0 _ _ (0, 0) hb]; rfl
  have hlt := (Array.getElem?_eq_some_iff.1 hb).1
  clear h hB hb
  show Calls _ _ #[.agg #[.int .i64 q.k.id, .slice q.S q.k.sec.length q.c, .int .i64 q.k.frm, .int .i64 q.k.til], .pointer (some ⟨b, 0, none⟩)] W _
  go_enter Try.func21, Try.ntmps21
  go_wp2
  go_ret
  exact ⟨rfl, below_lit W _ _⟩
theorem on_fits (day : Int) (b : Nat) (w : World) (h : w.heap[b]? = some (.cells #[.int .i64 day] 3 (0, 0))) : Fits 23 #[.pointer (some ⟨b, 0, none⟩)] (usedOn day) w := by
  intro W q hB
  have hb : W.heap[b]? = some (.cells #[.int .i64 day] 3 (0, 0)) := (hB.block _ (Array.getElem?_eq_some_iff.1 h).1).trans h
  have hc : W.cell? ⟨b, 0, none⟩ = some (.int .i64 day) := by rw [cell_of_row W b 0 _ _ (0, 0) hb]; rfl
  have hlt := (Array.getElem?_eq_some_iff.1 hb).1
  clear h hB hb
  show Calls _ _ #[.agg #[.int .i64 q.k.id, .slice q.S q.k.sec.length q.c, .int .i64 q.k.frm, .int .i64 q.k.til], .pointer (some ⟨b, 0, none⟩)] W _
  go_enter Try.func23, Try.ntmps23
  go_wp2
  all_goals
    go_ret
    refine ⟨congrArg Ending.returned (congrArg Value.bool ?_), below_lit W _ _⟩
    rw [Bool.eq_iff_iff]
    simp [usedOn]
    try omega
theorem add_fits (kv : KV) (b : Nat) (w : World) (h : w.heap[b]? = some (.cells #[.int .i64 kv.k.id, .slice kv.S kv.k.sec.length kv.c, .int .i64 kv.k.frm, .int .i64 kv.k.til] 26 (0, 0))) : Fits 27 #[.pointer (some ⟨b, 0, none⟩)] (fun q => decide (q.id ≤ kv.k.id)) w := by
  intro W q hB
  have hb : W.heap[b]? = some (.cells #[.int .i64 kv.k.id, .slice kv.S kv.k.sec.length kv.c, .int .i64 kv.k.frm, .int .i64 kv.k.til] 26 (0, 0)) := (hB.block _ (Array.getElem?_eq_some_iff.1 h).1).trans h
  have hc : W.cell? ⟨b, 0, none⟩ = some (.int .i64 kv.k.id) := by rw [cell_of_row W b 0 _ _ (0, 0) hb]; rfl
  have hlt := (Array.getElem?_eq_some_iff.1 hb).1
  clear h hB hb
  show Calls _ _ #[.agg #[.int .i64 q.k.id, .slice q.S q.k.sec.length q.c, .int .i64 q.k.frm, .int .i64 q.k.til], .pointer (some ⟨b, 0, none⟩)] W _
  go_enter Try.func27, Try.ntmps27
  go_wp2
  go_ret
  exact ⟨rfl, below_lit W _ _⟩
end Go.Proofs.Ytedkgkokfaadfaa
