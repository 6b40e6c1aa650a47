/-
  Proved: for all keys and any key the law RingAdds answers true, and leaves what came in as it was. Conditions: none beyond the statement's own.
-/
import Derived.Test.YtedkgkokfaadfaaRingAddsLaw
import Derived.Test.YtedkgkokfaadfaaRingSetMath
namespace Go.Proofs.Ytedkgkokfaadfaa
set_option linter.unusedVariables false
open Go.ChangeShapes Go.WideShapes Go.ChangeAt Go.RowKit

set_option maxRecDepth 100000 in
theorem adds_lifted (C : RC) (os : Os) (started : os.Started) (H : Type) (enc : TypeId × Value → H) :
    ReturnsInHanded {} Try.checked os 4 .any (Rows.ringAddsSpec.pre6 enc Try.prog Try.f4 Rows.ringAddsRow.domain false) (Rows.ringAddsSpec.post enc Try.prog Try.f4 false true false false) := by
  refine returnsInHanded_of_change (C := Try.checked) Try.own started (by kernel_rfl) Try.func4
    (ChangeSpec.witness6 (enc := enc) (C := Try.checked) false ⟨#[], #[.slice none 0 0, .agg #[.int .i64 0, .slice none 0 0, .int .i64 0, .int .i64 0]], []⟩ 8 (by kernel_rfl) (by kernel_rfl) (by kernel_rfl) (by kernel_rfl)) ?_
  intro W base args ds gs before hval0 hW _ _
  have hval : ∀ (j : Nat) t v, Try.f4.params[j]? = some t → args[j]? = some v → Value.okWide Try.prog W .any base t v := hval0
  have hW' := hW
  obtain ⟨p, q, hA0, hV, rfl, _, _⟩ := hW'
  have hA : DataW.TrodAll enc Try.prog W 0 (fun _ => true) true Try.f4.params.toList args.toList ds p := hA0
  rw [Try.params4] at hA hval
  obtain ⟨v0, vs0, d0, ds0, p0, q0, hargs0, rfl, rfl, h0, r0⟩ := trodAll_cons hA
  obtain ⟨v1, vs1, d1, ds1, p1, q1, hargs1, rfl, rfl, h1, r1⟩ := trodAll_cons r0
  obtain ⟨rfl, rfl, rfl⟩ := trodAll_nil r1
  obtain rfl : args = #[v0, v1] := by cases args; simp_all
  obtain ⟨A0, l0, c0, rfl, hk0, hm0, hc0, hn0⟩ := open_keys (hval 0 22 v0 rfl rfl) h0
  obtain ⟨q1, rfl, hq1⟩ := open_key (hval 1 26 v1 rfl rfl) h1
  have hlaw : Calls Try.prog 4 #[.slice A0 l0.length c0, .agg #[.int .i64 q1.k.id, .slice q1.S q1.k.sec.length q1.c, .int .i64 q1.k.frm, .int .i64 q1.k.til]] W fun e w' => e = .returned (.bool true) ∧ Below W.heap.size W w' := by
    cases hb : bigR l0 with
    | true => exact adds_big l0 q1 _ rfl A0 c0 W hk0 hq1 hb (by omega)
    | false =>
      by_cases h : 200 < q1.k.sec.length
      · exact adds_long l0 q1 _ rfl A0 c0 W hk0 hq1 hb h (by omega)
      · exact adds_any C l0 q1 _ rfl A0 c0 W hk0 ⟨hm0, hc0, hn0⟩ hq1 hb (by omega) (by omega)
  refine hlaw.mono fun e W' ⟨he, hb⟩ => ?_
  subst he
  exact ⟨_, rfl, law_post Try.laidOut Try.underlying4 hW rfl (by kernel_rfl) (by kernel_rfl) rfl hb⟩

theorem ringAdds_of (C : RC) : Rows.RingAddsSaid :=
  OpenClaim.holds_of_wide 4 Try.f4 rfl rfl rfl rfl rfl rfl rfl ⟨rfl, rfl, rfl, rfl, rfl⟩ rfl rfl rfl rfl rfl (by kernel_rfl) Try.func4 (by kernel_rfl)
    (of_decide_eq_true (by kernel_rfl)) (by unfold Func.isWrapper; first | (rw [if_pos (by decide +kernel)]; kernel_rfl) | (rw [if_neg (by decide +kernel)]; exact ⟨rfl, rfl⟩))
    (fun os started H enc _ => adds_lifted C os started H enc)
end Go.Proofs.Ytedkgkokfaadfaa
