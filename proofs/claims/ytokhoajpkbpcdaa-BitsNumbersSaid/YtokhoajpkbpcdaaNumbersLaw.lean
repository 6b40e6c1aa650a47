/-
  Proved: for every two numbers and all bytes the law BitsNumbers answers true, and leaves what came in as it was. Conditions: none beyond the statement's own.
-/
import Derived.Test.YtokhoajpkbpcdaaRefPut
import Derived.Test.YtokhoajpkbpcdaaWordsLaw
namespace Go.Proofs.Ytokhoajpkbpcdaa
set_option linter.unusedVariables false
open Go.ChangeShapes Go.WideShapes Go.ChangeAt Go.RowKit

theorem refput_over (N size : Nat) (w : World) (hN : N < 9223372036854775808) (hs : size ≤ 8) (h : 256 ^ size ≤ N) :
    Calls Try.prog 18 #[.int .i64 N, .int .i64 size] w fun e w' => e = .returned (.tuple #[.slice none 0 0, .int .i64 23]) ∧ Below w.heap.size w w' := by
  refine (refput_ok N size w hN hs).mono ?_
  rintro e w' ⟨⟨_, he⟩ | ⟨h', _⟩, hb⟩
  · exact ⟨he, hb⟩
  · exact absurd h (by omega)
theorem refput_rd (N size : Nat) (w : World) (hN : N < 9223372036854775808) (hs : size ≤ 8) (h : N < 256 ^ size) :
    Calls Try.prog 18 #[.int .i64 N, .int .i64 size] w fun e w' => ∃ g cap, e = .returned (.tuple #[.slice (some ⟨g, 0, none⟩) size cap, .int .i64 0]) ∧
      Rd w' w'.heap.size (some ⟨g, 0, none⟩) (U8 (putB N size)) ∧ Below w.heap.size w w' := by
  refine (refput_ok N size w hN hs).mono ?_
  rintro e w' ⟨⟨h', _⟩ | ⟨_, g, cap, he, hown⟩, hb⟩
  · exact absurd h (by omega)
  · exact ⟨g, cap, he, Rd.of_own hown, hb⟩

/-- What both readings of bytes answer: a number and an error's number. -/
def got (l : List Nat) (d g : Int) : Prop := (8 < l.length ∧ d = 0 ∧ g = 1) ∨ (l.length = 8 ∧ 128 ≤ l.getD 0 0 ∧ d = 0 ∧ g = 23) ∨ (l.length ≤ 8 ∧ (l.length = 8 → l.getD 0 0 < 128) ∧ d = (valB l : Nat) ∧ g = 0)
theorem got_some (l : List Nat) : ∃ d g, got l d g := by
  by_cases h : 8 < l.length
  · exact ⟨0, 1, .inl ⟨h, rfl, rfl⟩⟩
  · by_cases h2 : l.length = 8 ∧ 128 ≤ l.getD 0 0
    · exact ⟨0, 23, .inr (.inl ⟨h2.1, h2.2, rfl, rfl⟩)⟩
    · exact ⟨_, _, .inr (.inr ⟨by omega, fun e => by omega, rfl, rfl⟩)⟩
theorem get_any (l : List Nat) (d g : Int) (A : Option Addr) (c B : Nat) (w : World) (h : got l d g) (hA : Rd w B A (U8 l)) (hb : ∀ x ∈ l, x < 256) (hl : l.length ≤ maxLen) :
    Calls Try.prog 19 #[.slice A l.length c] w fun e w' => e = .returned (.tuple #[.int .i64 d, .int .i64 g]) ∧ w = w' := by
  rcases h with ⟨h, rfl, rfl⟩ | ⟨h, h2, rfl, rfl⟩ | ⟨h, h2, rfl, rfl⟩
  · exact get_arg l A c w hl h
  · exact get_over l A c B w hA h h2
  · exact get_ok l A c B w hA hb h h2
theorem refget_any (l : List Nat) (d g : Int) (A : Option Addr) (c B : Nat) (w : World) (h : got l d g) (hA : Rd w B A (U8 l)) (hb : ∀ x ∈ l, x < 256) (hl : l.length ≤ maxLen) :
    Calls Try.prog 20 #[.slice A l.length c] w fun e w' => e = .returned (.tuple #[.int .i64 d, .int .i64 g]) ∧ w = w' := by
  rcases h with ⟨h, rfl, rfl⟩ | ⟨h, h2, rfl, rfl⟩ | ⟨h, h2, rfl, rfl⟩
  · exact refget_arg l A c w hl h
  · exact refget_over l A c B w hA h h2
  · exact refget_ok l A c B w hA hb h h2

set_option maxRecDepth 100000 in
theorem numbers_any (n size : Int) (l : List Nat) (A : Option Addr) (c : Nat) (w : World) (hA : Rd w w.heap.size A (U8 l)) (hl : ∀ x ∈ l, x < 256) (h1 : l.length ≤ 100) (hn : n ≤ 9223372036854775807) :
    Calls Try.prog 5 #[.int .i64 n, .int .i64 size, .slice A l.length c] w fun e w' => e = .returned (.bool true) ∧ Below w.heap.size w w' := by
  obtain ⟨d, g, hg⟩ := got_some l
  have HL := Lib.hid hl
  have HG := Lib.hid hg
  clear hl hg
  rcases put_ways n size hn with hp | ⟨N, S, rfl, rfl, hN, hS, hp | hp⟩
  · have HP := Lib.hid hp
    clear hp
    have hbl := Below.refl w.heap.size w
    go_enter Try.func5, Try.ntmps5
    go_wp2_with fail
    refine (put_arg n size _ HP.out).mono ?_
    rintro e w' ⟨rfl, rfl⟩
    go_wp2_with fail
    refine (refput_arg n size _ HP.out).mono ?_
    rintro e w' ⟨rfl, rfl⟩
    go_wp2_with fail
    refine (get_any l d g A c _ _ HG.out hA HL.out (by unfold maxLen; omega)).mono ?_
    rintro e w' ⟨rfl, rfl⟩
    go_wp2_with fail
    refine (refget_any l d g A c _ _ HG.out hA HL.out (by unfold maxLen; omega)).mono ?_
    rintro e w' ⟨rfl, rfl⟩
    go_wp2_with fail
    refine (turned_any _).mono ?_
    rintro e w3 ⟨rfl, hb3⟩
    replace hbl := hbl.trans (hb3.mono hbl.size)
    clear hb3
    go_wp2_with fail
    refine (same_len [] 0 rfl none none 0 0 0 _ (rd_nothing _ _ _) (rd_nothing _ _ _) (by unfold maxLen; omega)).mono ?_
    rintro e w4 ⟨rfl, hb4⟩
    go_wp2_with fail
    go_ret
    exact ⟨by simp, hbl.trans (hb4.mono hbl.size)⟩
  · have HP := Lib.hid hp
    clear hp
    go_enter Try.func5, Try.ntmps5
    go_wp2_with fail
    refine (put_over N S _ hN hS HP.out).mono ?_
    rintro e w' ⟨rfl, rfl⟩
    go_wp2_with fail
    refine (refput_over N S _ hN hS HP.out).mono ?_
    rintro e w1 ⟨rfl, hbl⟩
    replace hA := hA.next hbl
    go_wp2_with fail
    refine (get_any l d g A c _ _ HG.out hA HL.out (by unfold maxLen; omega)).mono ?_
    rintro e w' ⟨rfl, rfl⟩
    go_wp2_with fail
    refine (refget_any l d g A c _ _ HG.out hA HL.out (by unfold maxLen; omega)).mono ?_
    rintro e w' ⟨rfl, rfl⟩
    go_wp2_with fail
    refine (turned_any _).mono ?_
    rintro e w3 ⟨rfl, hb3⟩
    replace hbl := hbl.trans (hb3.mono hbl.size)
    clear hb3
    go_wp2_with fail
    refine (same_len [] 0 rfl none none 0 0 0 _ (rd_nothing _ _ _) (rd_nothing _ _ _) (by unfold maxLen; omega)).mono ?_
    rintro e w4 ⟨rfl, hb4⟩
    go_wp2_with fail
    go_ret
    exact ⟨by simp, hbl.trans (hb4.mono hbl.size)⟩
  · have HP := Lib.hid hp
    clear hp
    go_enter Try.func5, Try.ntmps5
    go_wp2_with fail
    refine (put_rd N S _ hN hS HP.out).mono ?_
    rintro e w1 ⟨g1, c1, rfl, hr1, hbl⟩
    replace hA := hA.next hbl
    go_wp2_with fail
    refine (refput_rd N S _ hN hS HP.out).mono ?_
    rintro e w2 ⟨g2, c2, rfl, hr2, hb2⟩
    replace hA := hA.next hb2
    replace hr1 := hr1.next hb2
    replace hbl := hbl.trans (hb2.mono hbl.size)
    clear hb2
    go_wp2_with fail
    refine (get_any l d g A c _ _ HG.out hA HL.out (by unfold maxLen; omega)).mono ?_
    rintro e w' ⟨rfl, rfl⟩
    go_wp2_with fail
    refine (refget_any l d g A c _ _ HG.out hA HL.out (by unfold maxLen; omega)).mono ?_
    rintro e w' ⟨rfl, rfl⟩
    go_wp2_with fail
    refine (turned_any _).mono ?_
    rintro e w3 ⟨rfl, hb3⟩
    replace hbl := hbl.trans (hb3.mono hbl.size)
    replace hr1 := hr1.next hb3
    replace hr2 := hr2.next hb3
    clear hb3
    go_wp2_with fail
    refine (same_len (putB N S) _ (length_putB N S).symm _ _ c1 c2 _ _ hr1 hr2 (by unfold maxLen; omega)).mono ?_
    rintro e w4 ⟨rfl, hb4⟩
    go_wp2_with fail
    go_ret
    exact ⟨by simp, hbl.trans (hb4.mono hbl.size)⟩

set_option maxRecDepth 100000 in
theorem numbers_long (n1 : Nat) (A : Option Addr) (c : Nat) (n size : Int) (w : World) (h1 : n1 ≤ 9223372036854775807) (h : 100 < n1) :
    Calls Try.prog 5 #[.int .i64 n, .int .i64 size, .slice A n1 c] w fun e w' => e = .returned (.bool true) ∧ Below w.heap.size w w' := by
  go_enter Try.func5, Try.ntmps5
  go_wp2_with fail
  go_ret
  exact ⟨rfl, Below.refl _ _⟩

set_option maxRecDepth 100000 in
theorem numbers_lifted (os : Os) (started : os.Started) (H : Type) (enc : TypeId × Value → H) :
    ReturnsInHanded {} Try.checked os 5 .any (Rows.bitsNumbersSpec.pre6 enc Try.prog Try.f5 Rows.bitsNumbersRow.domain false) (Rows.bitsNumbersSpec.post enc Try.prog Try.f5 false true false false) := by
  refine returnsInHanded_of_change (C := Try.checked) Try.own started (by kernel_rfl) Try.func5
    (ChangeSpec.witness6 (enc := enc) (C := Try.checked) false ⟨#[], #[.int .i64 0, .int .i64 0, .slice none 0 0], []⟩ 8 (by kernel_rfl) (by kernel_rfl) (by kernel_rfl) (by kernel_rfl)) ?_
  intro W base args ds gs before hval0 hW _ _
  have hval : ∀ (j : Nat) t v, Try.f5.params[j]? = some t → args[j]? = some v → Value.okWide Try.prog W .any base t v := hval0
  have hW' := hW
  obtain ⟨p, q, hA0, hV, rfl, _, _⟩ := hW'
  have hA : DataW.TrodAll enc Try.prog W 0 (fun _ => true) true Try.f5.params.toList args.toList ds p := hA0
  rw [Try.params5] at hA hval
  obtain ⟨v0, vs0, d0, ds0, p0, q0, hargs, rfl, rfl, h0, r0⟩ := trodAll_cons hA
  obtain ⟨v1, vs1, d1, ds1, p1, q1, rfl, rfl, rfl, h1, r1⟩ := trodAll_cons r0
  obtain ⟨v2, vs2, d2, ds2, p2, q2, rfl, rfl, rfl, h2, r2⟩ := trodAll_cons r1
  obtain ⟨rfl, rfl, rfl⟩ := trodAll_nil r2
  obtain rfl : args = #[v0, v1, v2] := by cases args; simp_all
  obtain ⟨a0, rfl, _, _, f0⟩ := open_int Try.underlying3 (hval 0 3 v0 rfl rfl) h0
  obtain ⟨a1, rfl, _, _, f1⟩ := open_int Try.underlying3 (hval 1 3 v1 rfl rfl) h1
  obtain ⟨A, l, c, rfl, hr, hl, hm⟩ := open_nats Try.underlying26 Try.underlying5 Try.cells5 wf_u8 (hval 2 26 v2 rfl rfl) h2
  have b0 := wf_i64 _ f0
  unfold maxLen at hm
  have hlaw : Calls Try.prog 5 #[.int .i64 a0, .int .i64 a1, .slice A l.length c] W fun e w' => e = .returned (.bool true) ∧ Below W.heap.size W w' := by
    by_cases h : 100 < l.length
    · exact numbers_long _ A c a0 a1 W hm h
    · exact numbers_any a0 a1 l A c W hr hl (by omega) b0.2
  refine hlaw.mono fun e W' ⟨he, hb⟩ => ?_
  subst he
  exact ⟨_, rfl, law_post Try.laidOut Try.underlying4 hW rfl (by kernel_rfl) (by kernel_rfl) rfl hb⟩

theorem bitsNumbers_holds : Rows.BitsNumbersSaid :=
  OpenClaim.holds_of_wide 5 Try.f5 rfl rfl rfl rfl rfl rfl rfl ⟨rfl, rfl, rfl, rfl, rfl⟩ rfl rfl rfl rfl rfl (by kernel_rfl) Try.func5 (by kernel_rfl)
    (of_decide_eq_true (by kernel_rfl)) (by unfold Func.isWrapper; first | (rw [if_pos (by decide +kernel)]; kernel_rfl) | (rw [if_neg (by decide +kernel)]; exact ⟨rfl, rfl⟩))
    (fun os started H enc _ => numbers_lifted os started H enc)
#print axioms bitsNumbers_holds
end Go.Proofs.Ytokhoajpkbpcdaa
