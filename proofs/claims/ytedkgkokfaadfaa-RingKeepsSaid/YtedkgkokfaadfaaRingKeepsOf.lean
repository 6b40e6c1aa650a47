/-
  Proved: for all keys, any key and any number the law RingKeeps answers true, and leaves what came in as it was. Conditions: none beyond the statement's own.
-/
import Derived.Test.YtedkgkokfaadfaaRingKeepsLaw
import Derived.Test.YtedkgkokfaadfaaRingSetMath
namespace Go.Proofs.Ytedkgkokfaadfaa
set_option linter.unusedVariables false
open Go.ChangeShapes Go.WideShapes Go.ChangeAt Go.RowKit

set_option maxRecDepth 100000 in
theorem keeps_lifted (C : RC) (os : Os) (started : os.Started) (H : Type) (enc : TypeId × Value → H) :
    ReturnsInHanded {} Try.checked os 5 .any (Rows.ringKeepsSpec.pre6 enc Try.prog Try.f5 Rows.ringKeepsRow.domain false) (Rows.ringKeepsSpec.post enc Try.prog Try.f5 false true false false) := by
  refine returnsInHanded_of_change (C := Try.checked) Try.own started (by kernel_rfl) Try.func5
    (ChangeSpec.witness6 (enc := enc) (C := Try.checked) false ⟨#[], #[.slice none 0 0, .agg #[.int .i64 0, .slice none 0 0, .int .i64 0, .int .i64 0], .int .i64 0], []⟩ 8 (by kernel_rfl) (by kernel_rfl) (by kernel_rfl) (by kernel_rfl)) ?_
  intro W base args ds gs before hval0 hW _ _
  have hval : ∀ (j : Nat) t v, Try.f5.params[j]? = some t → args[j]? = some v → Value.okWide Try.prog W .any base t v := hval0
  have hW' := hW
  obtain ⟨p, q, hA0, hV, rfl, _, _⟩ := hW'
  have hA : DataW.TrodAll enc Try.prog W 0 (fun _ => true) true Try.f5.params.toList args.toList ds p := hA0
  rw [Try.params5] at hA hval
  obtain ⟨v0, vs0, d0, ds0, p0, q0, hargs0, rfl, rfl, h0, r0⟩ := trodAll_cons hA
  obtain ⟨v1, vs1, d1, ds1, p1, q1, hargs1, rfl, rfl, h1, r1⟩ := trodAll_cons r0
  obtain ⟨v2, vs2, d2, ds2, p2, q2, hargs2, rfl, rfl, h2, r2⟩ := trodAll_cons r1
  obtain ⟨rfl, rfl, rfl⟩ := trodAll_nil r2
  obtain rfl : args = #[v0, v1, v2] := by cases args; simp_all
  obtain ⟨A0, l0, c0, rfl, hk0, hm0, hc0, hn0⟩ := open_keys (hval 0 22 v0 rfl rfl) h0
  obtain ⟨q1, rfl, hq1⟩ := open_key (hval 1 26 v1 rfl rfl) h1
  obtain ⟨x2, rfl, _, _, wx2⟩ := open_int Try.underlying3 (hval 2 3 v2 rfl rfl) h2
  have hlaw : Calls Try.prog 5 #[.slice A0 l0.length c0, .agg #[.int .i64 q1.k.id, .slice q1.S q1.k.sec.length q1.c, .int .i64 q1.k.frm, .int .i64 q1.k.til], .int .i64 x2] W fun e w' => e = .returned (.bool true) ∧ Below W.heap.size W w' := by
    have hs : Sl A0 l0.length c0 := ⟨hm0, hc0, hn0⟩
    cases hb : bigR l0 with
    | true => exact keeps_big C l0 q1 x2 _ rfl A0 c0 W hk0 hs hq1 (by omega) _ _ _ rfl rfl rfl hb
    | false =>
      by_cases h : 200 < q1.k.sec.length
      · exact keeps_long C l0 q1 x2 _ rfl A0 c0 W hk0 hs hq1 (by omega) _ _ _ rfl rfl rfl hb h
      · by_cases e1 : addE l0 q1.k = 0
        · obtain ⟨f1, f2, f3, ⟨g1, g2, g3, g4⟩, f5⟩ := keeps_facts e1.symm
          by_cases hid : x2 = q1.k.id
          · subst hid
            exact keeps_same C l0 q1 _ _ rfl A0 c0 W hk0 hs hq1 (by omega) _ _ rfl e1.symm rfl hb (by omega) (by simp) g1 g2 g3 g4 f1
          · obtain ⟨p1, p2⟩ := f5 x2 hid
            exact keeps_other C l0 q1 x2 _ rfl A0 c0 W hk0 hs hq1 (by omega) _ _ rfl e1.symm rfl hb (by omega) (by simpa using hid) _ _ rfl rfl p1 p2 f1 (by rw [f2]; omega) f3
        · exact keeps_bad C l0 q1 x2 _ rfl A0 c0 W hk0 hs hq1 (by omega) _ _ _ rfl rfl rfl hb (by omega) (by simpa using e1) (by simpa using e1)
  refine hlaw.mono fun e W' ⟨he, hb⟩ => ?_
  subst he
  exact ⟨_, rfl, law_post Try.laidOut Try.underlying4 hW rfl (by kernel_rfl) (by kernel_rfl) rfl hb⟩

theorem ringKeeps_of (C : RC) : Rows.RingKeepsSaid :=
  OpenClaim.holds_of_wide 5 Try.f5 rfl rfl rfl rfl rfl rfl rfl ⟨rfl, rfl, rfl, rfl, rfl⟩ rfl rfl rfl rfl rfl (by kernel_rfl) Try.func5 (by kernel_rfl)
    (of_decide_eq_true (by kernel_rfl)) (by unfold Func.isWrapper; first | (rw [if_pos (by decide +kernel)]; kernel_rfl) | (rw [if_neg (by decide +kernel)]; exact ⟨rfl, rfl⟩))
    (fun os started H enc _ => keeps_lifted C os started H enc)
end Go.Proofs.Ytedkgkokfaadfaa
