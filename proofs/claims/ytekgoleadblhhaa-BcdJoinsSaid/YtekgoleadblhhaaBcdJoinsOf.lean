/-
  Whatever comes in, the law BcdJoins answers true, and leaves what came in as it was. Conditions: none beyond the statement's own.
-/
import Derived.Test.YtekgoleadblhhaaBcdJoinsLaw
import Derived.Test.YtekgoleadblhhaaBcdOpen
namespace Go.Proofs.Ytekgoleadblhhaa
set_option linter.unusedVariables false
open Go.ChangeShapes Go.WideShapes Go.ChangeAt Go.RowKit

set_option maxRecDepth 100000 in
theorem joins12_lifted (C : True) (os : Os) (started : os.Started) (H : Type) (enc : TypeId × Value → H) :
    ReturnsInHanded {} Try.checked os 4 .any (Rows.bcdJoinsSpec.pre6 enc Try.prog Try.f4 Rows.bcdJoinsRow.domain false) (Rows.bcdJoinsSpec.post enc Try.prog Try.f4 false true false false) := by
  refine returnsInHanded_of_change (C := Try.checked) Try.own started (by kernel_rfl) Try.func4
    (ChangeSpec.witness6 (enc := enc) (C := Try.checked) false ⟨#[], #[.slice none 0 0, .slice none 0 0, .slice none 0 0], []⟩ 8 (by kernel_rfl) (by kernel_rfl) (by kernel_rfl) (by kernel_rfl)) ?_
  intro W base args ds gs before hval0 hW _ _
  have hval : ∀ (j : Nat) t v, Try.f4.params[j]? = some t → args[j]? = some v → Value.okWide Try.prog W .any base t v := hval0
  have hW' := hW
  obtain ⟨p, q, hA0, hV, rfl, _, _⟩ := hW'
  have hA : DataW.TrodAll enc Try.prog W 0 (fun _ => true) true Try.f4.params.toList args.toList ds p := hA0
  rw [Try.params4] at hA hval
  obtain ⟨v0, vs0, d0, ds0, p0, pq0, hargs0, rfl, rfl, h0, r0⟩ := trodAll_cons hA
  obtain ⟨v1, vs1, d1, ds1, p1, pq1, hargs1, rfl, rfl, h1, r1⟩ := trodAll_cons r0
  obtain ⟨v2, vs2, d2, ds2, p2, pq2, hargs2, rfl, rfl, h2, r2⟩ := trodAll_cons r1
  obtain ⟨rfl, rfl, rfl⟩ := trodAll_nil r2
  obtain rfl : args = #[v0, v1, v2] := by cases args; simp_all
  obtain ⟨A0, l0, k0, rfl, y0, s0⟩ := open_zs (hval 0 31 v0 rfl rfl) h0
  obtain ⟨A1, l1, k1, rfl, y1, s1⟩ := open_zs (hval 1 31 v1 rfl rfl) h1
  obtain ⟨A2, l2, k2, rfl, s2⟩ := open_bs (hval 2 22 v2 rfl rfl) h2
  have hlaw : Calls Try.prog 4 #[.slice A0 l0.length k0, .slice A1 l1.length k1, .slice A2 l2.length k2] W fun e w' => e = .returned (.bool true) ∧ Below W.heap.size W w' := joins12_any l0 l1 y0 l2 _ _ _ rfl rfl rfl A0 A1 A2 k0 k1 k2 W s0 s1 s2
  refine hlaw.mono fun e W' ⟨he, hb⟩ => ?_
  subst he
  exact ⟨_, rfl, law_post Try.laidOut Try.underlying4 hW rfl (by kernel_rfl) (by kernel_rfl) rfl hb⟩

theorem bcdJoins_of (C : True) : Rows.BcdJoinsSaid :=
  OpenClaim.holds_of_wide 4 Try.f4 rfl rfl rfl rfl rfl rfl rfl ⟨rfl, rfl, rfl, rfl, rfl⟩ rfl rfl rfl rfl rfl (by kernel_rfl) Try.func4 (by kernel_rfl)
    (of_decide_eq_true (by kernel_rfl)) (by unfold Func.isWrapper; first | (rw [if_pos (by decide +kernel)]; kernel_rfl) | (rw [if_neg (by decide +kernel)]; exact ⟨rfl, rfl⟩))
    (fun os started H enc _ => joins12_lifted C os started H enc)
end Go.Proofs.Ytekgoleadblhhaa
