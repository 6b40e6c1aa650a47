/-
  Proved: for all two numbers the law SealTells answers true, and leaves what came in as it was. Conditions: none beyond the statement's own.
-/
import Derived.Test.YtghepddfjdillaaSealNamed
namespace Go.Proofs.Ytghepddfjdillaa
set_option linter.unusedVariables false
open Go.ChangeShapes Go.WideShapes Go.ChangeAt Go.RowKit

set_option maxRecDepth 100000 in
theorem tells_ok (m n : Nat) (w : World) (hm : m ≤ 4294967295) (hn : n ≤ 4294967295) :
    Calls Try.prog 6 #[.int .i64 m, .int .i64 n] w fun e w' => e = .returned (.bool true) ∧ Below w.heap.size w w' := by
  obtain ⟨s, hs⟩ : ∃ s, (m == n) = s := ⟨_, rfl⟩
  have hs2 : (dec m == dec n) = s := by rw [dec_beq m n (by omega) (by omega), hs]
  have hs3 : ((m : Int) == (n : Int)) = s := by rw [eq_cast, hs]
  have HS := Lib.hid hs2
  have HS3 := Lib.hid hs3
  clear hs hs2 hs3
  go_enter Try.func6, Try.ntmps6
  go_wp2_with fail
  refine (digits_ok m w hm).mono ?_
  rintro e w1 ⟨g1, c1, rfl, hr1, hbl⟩
  go_wp2_with fail
  refine (digits_ok n w1 hn).mono ?_
  rintro e w2 ⟨g2, c2, rfl, hr2, hb2⟩
  replace hr1 := hr1.next hb2
  replace hbl := hbl.trans (hb2.mono hbl.size)
  clear hb2
  have HR1 := Lib.hid hr1
  have HR2 := Lib.hid hr2
  have HBL := Lib.hid hbl
  clear hr1 hr2 hbl
  go_wp2
  go_loop [9, 10] (fun v i => ∃ k : Nat, k ≤ 10 ∧ i = .int .i64 k ∧ v = .int .i64 (m / 10 ^ (10 - k) : Nat)) (fun _ i => 10 - (intOf i).toNat)
  case atStart => exact ⟨0, Nat.zero_le _, rfl, by rw [Nat.div_eq_of_lt (by simp; omega)]; rfl⟩
  case round =>
    obtain ⟨k, hk, rfl, rfl⟩ := hrel
    by_cases hlt : k < 10
    · obtain ⟨ad, e, _, hc⟩ := HR1.out k (.int .u8 ((digit m k : Nat) : Int)) (by rw [U8, List.getElem?_map, dec_at m k hlt]; rfl)
      cases e
      rw [at_add] at hc
      have hd := digit_lt m k
      have hst := digits_step m k hlt
      have hy : m / 10 ^ (10 - k) ≤ 4294967295 := Nat.le_trans (Nat.div_le_self _ _) hm
      have HST := Lib.hid hst
      clear hst
      generalize digit m k = x at *
      generalize m / 10 ^ (10 - k) = y at *
      have b1 : (0 : Int) ≤ (k : Int) := by omega
      have b2 : (k : Int) < 10 := by omega
      have b3 : ¬ ((9 : Int) < (x : Int)) := by omega
      go_wp2
      go_round
      case rel => exact ⟨k + 1, by omega, by go_num, by rw [← HST.out]; go_num⟩
      case measure => simp [intOf]; omega
    · have ek : k = 10 := by omega
      subst ek
      have e0 : m / 10 ^ (10 - 10) = m := by simp
      rw [e0]
      clear e0
      go_wp2_with fail
      refine (sealed_any w2).mono ?_
      rintro e w3 ⟨rfl, hb3⟩
      have HR1' := Lib.hid (HR1.out.next hb3)
      have HR2' := Lib.hid (HR2.out.next hb3)
      have HBL' := Lib.hid (HBL.out.trans (hb3.mono HBL.out.size))
      clear hb3
      go_wp2_with fail
      refine (sealsame_named (dec m) (dec n) 10 10 (length_dec m).symm (length_dec n).symm _ _ c1 c2 w3 HR1'.out HR2'.out (dec_lt m) (dec_lt n) (by omega) (by omega) s HS.out).mono ?_
      rintro e w4 ⟨rfl, hb4⟩
      have HBL2 := Lib.hid (HBL'.out.trans (hb4.mono HBL'.out.size))
      have hs3 := HS3.out
      clear hb4
      go_wp2_with fail
      go_ret
      exact ⟨by simp, HBL2.out⟩

set_option maxRecDepth 100000 in
theorem tells_bad1 (m n : Int) (w : World) (h : m < 0 ∨ 4294967295 < m) :
    Calls Try.prog 6 #[.int .i64 m, .int .i64 n] w fun e w' => e = .returned (.bool true) ∧ Below w.heap.size w w' := by
  have H := Lib.hid h
  clear h
  obtain ⟨L, hL⟩ : ∃ L, L = digL n := ⟨_, rfl⟩
  obtain ⟨k, hk⟩ : ∃ k, k = L.length := ⟨_, rfl⟩
  obtain ⟨E, hE⟩ : ∃ E, E = digE n := ⟨_, rfl⟩
  have HL := Lib.hid hL
  have HK := Lib.hid hk
  have HE := Lib.hid hE
  clear hL hk hE
  go_enter Try.func6, Try.ntmps6
  go_wp2_with fail
  refine (digits_arg m w H.out).mono ?_
  rintro e w1 ⟨rfl, rfl⟩
  go_wp2_with fail
  refine (digits_named n w L k E HL.out HK.out HE.out).mono ?_
  rintro e w2 ⟨A, c, rfl, hr, hbl⟩
  go_wp2_with fail
  refine (sealed_any w2).mono ?_
  rintro e w3 ⟨rfl, hb3⟩
  go_wp2_with fail
  go_ret
  exact ⟨rfl, hbl.trans (hb3.mono hbl.size)⟩

set_option maxRecDepth 100000 in
theorem tells_bad2 (m : Nat) (n : Int) (w : World) (hm : m ≤ 4294967295) (h : n < 0 ∨ 4294967295 < n) :
    Calls Try.prog 6 #[.int .i64 m, .int .i64 n] w fun e w' => e = .returned (.bool true) ∧ Below w.heap.size w w' := by
  have H := Lib.hid h
  clear h
  go_enter Try.func6, Try.ntmps6
  go_wp2_with fail
  refine (digits_ok m w hm).mono ?_
  rintro e w1 ⟨g1, c1, rfl, hr1, hbl⟩
  go_wp2_with fail
  refine (digits_arg n w1 H.out).mono ?_
  rintro e w2 ⟨rfl, rfl⟩
  go_wp2_with fail
  refine (sealed_any w1).mono ?_
  rintro e w3 ⟨rfl, hb3⟩
  go_wp2_with fail
  go_ret
  exact ⟨rfl, hbl.trans (hb3.mono hbl.size)⟩

set_option maxRecDepth 100000 in
theorem tells_lifted (os : Os) (started : os.Started) (H : Type) (enc : TypeId × Value → H) :
    ReturnsInHanded {} Try.checked os 6 .any (Rows.sealTellsSpec.pre6 enc Try.prog Try.f6 Rows.sealTellsRow.domain false) (Rows.sealTellsSpec.post enc Try.prog Try.f6 false true false false) := by
  refine returnsInHanded_of_change (C := Try.checked) Try.own started (by kernel_rfl) Try.func6
    (ChangeSpec.witness6 (enc := enc) (C := Try.checked) false ⟨#[], #[.int .i64 0, .int .i64 0], []⟩ 8 (by kernel_rfl) (by kernel_rfl) (by kernel_rfl) (by kernel_rfl)) ?_
  intro W base args ds gs before hval0 hW _ _
  have hval : ∀ (j : Nat) t v, Try.f6.params[j]? = some t → args[j]? = some v → Value.okWide Try.prog W .any base t v := hval0
  have hW' := hW
  obtain ⟨p, q, hA0, hV, rfl, _, _⟩ := hW'
  have hA : DataW.TrodAll enc Try.prog W 0 (fun _ => true) true Try.f6.params.toList args.toList ds p := hA0
  rw [Try.params6] at hA hval
  obtain ⟨v0, vs0, d0, ds0, p0, q0, hargs0, rfl, rfl, h0, r0⟩ := trodAll_cons hA
  obtain ⟨v1, vs1, d1, ds1, p1, q1, hargs1, rfl, rfl, h1, r1⟩ := trodAll_cons r0
  obtain ⟨rfl, rfl, rfl⟩ := trodAll_nil r1
  obtain rfl : args = #[v0, v1] := by cases args; simp_all
  obtain ⟨x0, rfl, _, _, wx0⟩ := open_int Try.underlying3 (hval 0 3 v0 rfl rfl) h0
  obtain ⟨x1, rfl, _, _, wx1⟩ := open_int Try.underlying3 (hval 1 3 v1 rfl rfl) h1
  have hlaw : Calls Try.prog 6 #[.int .i64 x0, .int .i64 x1] W fun e w' => e = .returned (.bool true) ∧ Below W.heap.size W w' := by
    by_cases h : x0 < 0 ∨ 4294967295 < x0
    · exact tells_bad1 x0 x1 W h
    · obtain ⟨m, rfl⟩ : ∃ m : Nat, x0 = (m : Int) := ⟨x0.toNat, by omega⟩
      by_cases h' : x1 < 0 ∨ 4294967295 < x1
      · exact tells_bad2 m x1 W (by omega) h'
      · obtain ⟨n, rfl⟩ : ∃ n : Nat, x1 = (n : Int) := ⟨x1.toNat, by omega⟩
        exact tells_ok m n W (by omega) (by omega)
  refine hlaw.mono fun e W' ⟨he, hb⟩ => ?_
  subst he
  exact ⟨_, rfl, law_post Try.laidOut Try.underlying4 hW rfl (by kernel_rfl) (by kernel_rfl) rfl hb⟩

theorem sealTells_holds : Rows.SealTellsSaid :=
  OpenClaim.holds_of_wide 6 Try.f6 rfl rfl rfl rfl rfl rfl rfl ⟨rfl, rfl, rfl, rfl, rfl⟩ rfl rfl rfl rfl rfl (by kernel_rfl) Try.func6 (by kernel_rfl)
    (of_decide_eq_true (by kernel_rfl)) (by unfold Func.isWrapper; first | (rw [if_pos (by decide +kernel)]; kernel_rfl) | (rw [if_neg (by decide +kernel)]; exact ⟨rfl, rfl⟩))
    (fun os started H enc _ => tells_lifted os started H enc)
#print axioms sealTells_holds
end Go.Proofs.Ytghepddfjdillaa
