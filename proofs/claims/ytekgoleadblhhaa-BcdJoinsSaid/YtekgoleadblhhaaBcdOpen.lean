/-
  How slices of bytes and of ints that came in are opened. Conditions: none.
-/
import Derived.Test.YtekgoleadblhhaaInts
import Derived.Test.YtekgoleadblhhaaBsRow
import Derived.Test.YtekgoleadblhhaaLaw
import Derived.Test.YtekgoleadblhhaaOpenArr
import Derived.Deep.Slices
import Derived.Deep.Fields
import Derived.Lib.SmallJoins
namespace Go.Proofs.Ytekgoleadblhhaa
set_option linter.unusedVariables false
open Go.ChangeShapes Go.WideShapes Go.ChangeAt Go.RowKit

section
variable {H : Type} {enc : TypeId × Value → H}
theorem open_bs {W : World} {r : Reach} {b0 : Nat} {v : Value} {d : DataW H} {ps : List MemPlace} (hval : Value.okWide Try.prog W r b0 22 v) (hd : DataW.Trod enc Try.prog W 0 (fun _ => true) true 22 v d ps) :
    ∃ (A : Option Addr) (s : List Nat) (c : Nat), v = .slice A s.length c ∧ Bs W W.heap.size s A c := by
  obtain ⟨A, l, c, h1, h2, h3, h4, h5, h6, _⟩ := open_nats_full Try.underlying22 Try.underlying5 Try.cellsU8 wf_u8 hval hd
  exact ⟨A, l, c, h1, ⟨h2, h6, h4, by unfold maxLen at h5; omega, h3⟩⟩
theorem open_zs {W : World} {r : Reach} {b0 : Nat} {v : Value} {d : DataW H} {ps : List MemPlace} (hval : Value.okWide Try.prog W r b0 31 v) (hd : DataW.Trod enc Try.prog W 0 (fun _ => true) true 31 v d ps) :
    ∃ (A : Option Addr) (l : List Int) (c : Nat), v = .slice A l.length c ∧ (∀ z ∈ l, In64 z) ∧ Zs W W.heap.size l A c := by
  obtain ⟨A, l, c, h1, h2, h3, h4, h5, h6, _⟩ := open_ints_full Try.underlying31 Try.underlying3 (by kernel_rfl) hval hd
  exact ⟨A, l, c, h1, h3, h2, h6, h4, by unfold maxLen at h5; omega⟩
end
end Go.Proofs.Ytekgoleadblhhaa
