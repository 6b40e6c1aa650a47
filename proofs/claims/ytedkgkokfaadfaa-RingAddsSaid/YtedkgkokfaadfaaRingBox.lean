/-
  A key in a box of its own: how it is stored whole, and handed back. No program of its own; conditions: the block is there.
-/
import Derived.Test.YtedkgkokfaadfaaArr
import Derived.Test.YtedkgkokfaadfaaRingMem
namespace Go.Proofs.Ytedkgkokfaadfaa
set_option linter.unusedVariables false
open Go.ChangeShapes Go.WideShapes Go.ChangeAt Go.RowKit

theorem results_row_tmp {P : Program} {fn : Func} {p u : Tmp} {ty : TypeId} (h : fn.results = #[.cell p ty, .tmp u]) (tmps : Array Value) (w : World) (g : Nat) (t : TypeId) (cs : Array Value) (fr : Nat × Nat) (d : TypeDesc)
    (hp : tmps.getD p undef = .pointer (some ⟨g, 0, none⟩)) (hg : w.heap[g]? = some (.cells cs t fr))
    (hu : P.underlying ty = some d) (hd : (match d with | .struct _ | .array _ _ => true | _ => false) = true) (hi : (P.info? ty).map (·.size) = some cs.size) :
    (results fn tmps).run P w = .ok (.tuple #[.agg cs, tmps.getD u undef]) w := by
  have hp' : tmps[p]?.getD undef = .pointer (some ⟨g, 0, none⟩) := by simpa using hp
  simp [results, h, hp', asAddr, run_loadVar_row w g t ty cs fr d hg hu hd hi]
theorem infoKey : (Try.prog.info? 26).map (·.size) = some 4 := by kernel_rfl
/-- A key's four cells. -/
def kz : Array Value := #[.int .i64 0, .slice none 0 0, .int .i64 0, .int .i64 0]
def kc (id : Int) (S : Option Addr) (n c : Nat) (f t : Int) : Array Value := #[.int .i64 id, .slice S n c, .int .i64 f, .int .i64 t]
theorem kc_one (id : Int) (S : Option Addr) (n c : Nat) (f t : Int) : (#[Value.int .i64 id, .slice S n c, .int .i64 f, .int .i64 t] : Array Value).all (·.oneCell') = true := by
  rw [Array.all_eq_true_iff_forall_mem]
  intro u hu
  simp at hu
  rcases hu with rfl | rfl | rfl | rfl <;> rfl
theorem Bs.empty (w : World) (B : Nat) : Bs w B [] none 0 := ⟨by intro k u hu; simp [U8] at hu, fun _ => rfl, by simp, by omega, by simp⟩
end Go.Proofs.Ytedkgkokfaadfaa
