/-
  Proved: for all two rows of bytes the law SealDiffs answers true, and leaves what came in as it was. Conditions: none beyond the statement's own.
-/
import Derived.Test.YtghepddfjdillaaSealedAny
import Derived.Test.YtghepddfjdillaaLaw
import Derived.Test.YtghepddfjdillaaOpenArr
namespace Go.Proofs.Ytghepddfjdillaa
set_option linter.unusedVariables false
open Go.ChangeShapes Go.WideShapes Go.ChangeAt Go.RowKit

theorem refdiff_named (a b : List Nat) (n m : Nat) (hn : n = a.length) (hm : m = b.length) (A A' : Option Addr) (c c' B : Nat) (w : World) (hA : Rd w B A (U8 a)) (hA' : Rd w B A' (U8 b)) (ha : ∀ x ∈ a, x < 256) (hb : ∀ x ∈ b, x < 256) (h1 : n ≤ 9223372036854775807) (h2 : m ≤ 9223372036854775807)
    (d : Nat) (q : Bool) (hd : d = dn a b (min n m)) (hq : q = (n == m)) :
    Calls Try.prog 8 #[.slice A n c, .slice A' m c'] w fun e w' => e = .returned (.tuple #[.int .u8 (d : Int), .bool q]) ∧ Below w.heap.size w w' := by
  subst hd hq
  exact refdiff_any a b n m hn hm A A' c c' B w hA hA' ha hb h1 h2
theorem sealsame_named (a b : List Nat) (n m : Nat) (hn : n = a.length) (hm : m = b.length) (A A' : Option Addr) (c c' : Nat) (w : World) (hA : Rd w w.heap.size A (U8 a)) (hA' : Rd w w.heap.size A' (U8 b)) (ha : ∀ x ∈ a, x < 256) (hb : ∀ x ∈ b, x < 256) (h1 : n ≤ 9223372036854775807) (h2 : m ≤ 9223372036854775807) (s : Bool) (hs : (a == b) = s) :
    Calls Try.prog 10 #[.slice A n c, .slice A' m c'] w fun e w' => e = .returned (.bool s) ∧ Below w.heap.size w w' := by
  subst hs
  exact sealsame_any a b n m hn hm A A' c c' w hA hA' ha hb h1 h2
theorem refsame_named (a b : List Nat) (n m : Nat) (hn : n = a.length) (hm : m = b.length) (A A' : Option Addr) (c c' B : Nat) (w : World) (hA : Rd w B A (U8 a)) (hA' : Rd w B A' (U8 b)) (h1 : n ≤ 9223372036854775807) (h2 : m ≤ 9223372036854775807) (s : Bool) (hs : (a == b) = s) :
    Calls Try.prog 11 #[.slice A n c, .slice A' m c'] w fun e w' => e = .returned (.bool s) ∧ Below w.heap.size w w' := by
  subst hs
  exact same_any a b n m hn hm A A' c c' B w hA hA' h1 h2

set_option maxRecDepth 100000 in
theorem diffs_any (a b : List Nat) (n m : Nat) (hn : n = a.length) (hm : m = b.length) (A A' : Option Addr) (c c' : Nat) (w : World) (hA : Rd w w.heap.size A (U8 a)) (hA' : Rd w w.heap.size A' (U8 b)) (ha : ∀ x ∈ a, x < 256) (hb : ∀ x ∈ b, x < 256) (h1 : n ≤ 2000) (h2 : m ≤ 2000) :
    Calls Try.prog 3 #[.slice A n c, .slice A' m c'] w fun e w' => e = .returned (.bool true) ∧ Below w.heap.size w w' := by
  obtain ⟨d, hd⟩ : ∃ d, d = dn a b (min n m) := ⟨_, rfl⟩
  obtain ⟨q, hq⟩ : ∃ q, q = (n == m) := ⟨_, rfl⟩
  obtain ⟨s, hs⟩ : ∃ s, (a == b) = s := ⟨_, rfl⟩
  have HD := Lib.hid hd
  have HQ := Lib.hid hq
  have HS := Lib.hid hs
  have HN := Lib.hid hn
  have HM := Lib.hid hm
  have HA := Lib.hid ha
  have HB := Lib.hid hb
  clear hd hq hs hn hm ha hb
  go_enter Try.func3, Try.ntmps3
  go_wp2_with fail
  refine (diff_named a b n m HN.out HM.out A A' c c' w hA hA' HA.out HB.out (by omega) (by omega) d q HD.out HQ.out).mono ?_
  rintro e w1 ⟨rfl, hbl⟩
  replace hA := hA.next hbl
  replace hA' := hA'.next hbl
  go_wp2_with fail
  refine (refdiff_named a b n m HN.out HM.out A A' c c' w1.heap.size w1 hA hA' HA.out HB.out (by omega) (by omega) d q HD.out HQ.out).mono ?_
  rintro e w2 ⟨rfl, hb2⟩
  replace hA := hA.next hb2
  replace hA' := hA'.next hb2
  replace hbl := hbl.trans (hb2.mono hbl.size)
  clear hb2
  go_wp2_with fail
  refine (sealed_any w2).mono ?_
  rintro e w3 ⟨rfl, hb3⟩
  replace hA := hA.next hb3
  replace hA' := hA'.next hb3
  replace hbl := hbl.trans (hb3.mono hbl.size)
  clear hb3
  go_wp2_with fail
  refine (sealsame_named a b n m HN.out HM.out A A' c c' w3 hA hA' HA.out HB.out (by omega) (by omega) s HS.out).mono ?_
  rintro e w4 ⟨rfl, hb4⟩
  replace hA := hA.next hb4
  replace hA' := hA'.next hb4
  replace hbl := hbl.trans (hb4.mono hbl.size)
  clear hb4
  go_wp2_with fail
  refine (refsame_named a b n m HN.out HM.out A A' c c' w4.heap.size w4 hA hA' (by omega) (by omega) s HS.out).mono ?_
  rintro e w5 ⟨rfl, hb5⟩
  replace hbl := hbl.trans (hb5.mono hbl.size)
  clear hb5
  go_wp2_with fail
  go_ret
  exact ⟨by simp, hbl⟩

set_option maxRecDepth 100000 in
theorem diffs_long1 (n m : Nat) (A A' : Option Addr) (c c' : Nat) (w : World) (h1 : n ≤ 9223372036854775807) (h2 : m ≤ 9223372036854775807) (h : 2000 < n) :
    Calls Try.prog 3 #[.slice A n c, .slice A' m c'] w fun e w' => e = .returned (.bool true) ∧ Below w.heap.size w w' := by
  go_enter Try.func3, Try.ntmps3
  go_wp2_with fail
  go_ret
  exact ⟨rfl, Below.refl _ _⟩

set_option maxRecDepth 100000 in
theorem diffs_long2 (n m : Nat) (A A' : Option Addr) (c c' : Nat) (w : World) (h1 : n ≤ 2000) (h2 : m ≤ 9223372036854775807) (h : 2000 < m) :
    Calls Try.prog 3 #[.slice A n c, .slice A' m c'] w fun e w' => e = .returned (.bool true) ∧ Below w.heap.size w w' := by
  go_enter Try.func3, Try.ntmps3
  go_wp2_with fail
  go_ret
  exact ⟨rfl, Below.refl _ _⟩

set_option maxRecDepth 100000 in
theorem diffs_lifted (os : Os) (started : os.Started) (H : Type) (enc : TypeId × Value → H) :
    ReturnsInHanded {} Try.checked os 3 .any (Rows.sealDiffsSpec.pre6 enc Try.prog Try.f3 Rows.sealDiffsRow.domain false) (Rows.sealDiffsSpec.post enc Try.prog Try.f3 false true false false) := by
  refine returnsInHanded_of_change (C := Try.checked) Try.own started (by kernel_rfl) Try.func3
    (ChangeSpec.witness6 (enc := enc) (C := Try.checked) false ⟨#[], #[.slice none 0 0, .slice none 0 0], []⟩ 8 (by kernel_rfl) (by kernel_rfl) (by kernel_rfl) (by kernel_rfl)) ?_
  intro W base args ds gs before hval0 hW _ _
  have hval : ∀ (j : Nat) t v, Try.f3.params[j]? = some t → args[j]? = some v → Value.okWide Try.prog W .any base t v := hval0
  have hW' := hW
  obtain ⟨p, q, hA0, hV, rfl, _, _⟩ := hW'
  have hA : DataW.TrodAll enc Try.prog W 0 (fun _ => true) true Try.f3.params.toList args.toList ds p := hA0
  rw [Try.params3] at hA hval
  obtain ⟨v0, vs0, d0, ds0, p0, q0, hargs0, rfl, rfl, h0, r0⟩ := trodAll_cons hA
  obtain ⟨v1, vs1, d1, ds1, p1, q1, hargs1, rfl, rfl, h1, r1⟩ := trodAll_cons r0
  obtain ⟨rfl, rfl, rfl⟩ := trodAll_nil r1
  obtain rfl : args = #[v0, v1] := by cases args; simp_all
  obtain ⟨A0, l0, c0, rfl, hr0, hl0, hc0, hm0, hn0, hw0⟩ := open_nats_full Try.underlying22 Try.underlying5 Try.cellsU8 wf_u8 (hval 0 22 v0 rfl rfl) h0
  obtain ⟨A1, l1, c1, rfl, hr1, hl1, hc1, hm1, hn1, hw1⟩ := open_nats_full Try.underlying22 Try.underlying5 Try.cellsU8 wf_u8 (hval 1 22 v1 rfl rfl) h1
  unfold maxLen at hm0 hm1
  have hlaw : Calls Try.prog 3 #[.slice A0 l0.length c0, .slice A1 l1.length c1] W fun e w' => e = .returned (.bool true) ∧ Below W.heap.size W w' := by
    by_cases h : 2000 < l0.length
    · exact diffs_long1 _ _ A0 A1 c0 c1 W (by omega) (by omega) h
    · by_cases h' : 2000 < l1.length
      · exact diffs_long2 _ _ A0 A1 c0 c1 W (by omega) (by omega) h'
      · exact diffs_any l0 l1 _ _ rfl rfl A0 A1 c0 c1 W hr0 hr1 hl0 hl1 (by omega) (by omega)
  refine hlaw.mono fun e W' ⟨he, hb⟩ => ?_
  subst he
  exact ⟨_, rfl, law_post Try.laidOut Try.underlying4 hW rfl (by kernel_rfl) (by kernel_rfl) rfl hb⟩

theorem sealDiffs_holds : Rows.SealDiffsSaid :=
  OpenClaim.holds_of_wide 3 Try.f3 rfl rfl rfl rfl rfl rfl rfl ⟨rfl, rfl, rfl, rfl, rfl⟩ rfl rfl rfl rfl rfl (by kernel_rfl) Try.func3 (by kernel_rfl)
    (of_decide_eq_true (by kernel_rfl)) (by unfold Func.isWrapper; first | (rw [if_pos (by decide +kernel)]; kernel_rfl) | (rw [if_neg (by decide +kernel)]; exact ⟨rfl, rfl⟩))
    (fun os started H enc _ => diffs_lifted os started H enc)
#print axioms sealDiffs_holds
end Go.Proofs.Ytghepddfjdillaa
