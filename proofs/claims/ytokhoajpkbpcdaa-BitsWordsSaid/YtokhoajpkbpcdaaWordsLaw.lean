/-
  Proved: for all bytes and words the law BitsWords answers true, and leaves what came in as it was. Conditions: none beyond the statement's own.
-/
import Derived.Test.YtokhoajpkbpcdaaRefBytes
import Derived.Test.YtokhoajpkbpcdaaBackLaw
namespace Go.Proofs.Ytokhoajpkbpcdaa
set_option linter.unusedVariables false
open Go.ChangeShapes Go.WideShapes Go.ChangeAt Go.RowKit

theorem samew_len (l : List Nat) (n : Nat) (hn : n = l.length) (A A' : Option Addr) (c c' B : Nat) (w : World) (hA : Rd w B A (U32 l)) (hA' : Rd w B A' (U32 l)) (hl : n ≤ maxLen) :
    Calls Try.prog 13 #[.slice A n c, .slice A' n c'] w fun e w' => e = .returned (.bool true) ∧ Below w.heap.size w w' := by
  subst hn; exact samew_eq l A A' c c' B w hA hA' hl
theorem same_len (l : List Nat) (n : Nat) (hn : n = l.length) (A A' : Option Addr) (c c' B : Nat) (w : World) (hA : Rd w B A (U8 l)) (hA' : Rd w B A' (U8 l)) (hl : n ≤ maxLen) :
    Calls Try.prog 14 #[.slice A n c, .slice A' n c'] w fun e w' => e = .returned (.bool true) ∧ Below w.heap.size w w' := by
  subst hn; exact same_eq l A A' c c' B w hA hA' hl
theorem rd_nothing (w : World) (B : Nat) (A : Option Addr) : Rd w B A [] := by intro k u hu; simp at hu

theorem refwords_rd (l : List Nat) (A : Option Addr) (c : Nat) (w : World) (hA : Rd w w.heap.size A (U8 l)) (hb : ∀ x ∈ l, x < 256) (hl : l.length ≤ 4000) (h4 : l.length % 4 = 0) :
    Calls Try.prog 12 #[.slice A l.length c] w fun e w' => ∃ A' cap, e = .returned (.tuple #[.slice A' (l.length / 4) cap, .int .i64 0]) ∧
      Rd w' w'.heap.size A' (U32 (wordsOf l)) ∧ Below w.heap.size w w' := by
  refine (refwords_ok l A c w hA hb hl h4).mono ?_
  rintro e w' ⟨v, rfl, hown, hbl⟩
  obtain ⟨A', cap, rfl, hr⟩ := own_shape hown
  exact ⟨A', cap, rfl, hr, hbl⟩
theorem refbytes_rd (l : List Nat) (A : Option Addr) (c : Nat) (w : World) (hA : Rd w w.heap.size A (U32 l)) (hb : ∀ x ∈ l, x < 4294967296) (hl : l.length ≤ 1000) :
    Calls Try.prog 16 #[.slice A l.length c] w fun e w' => ∃ A' cap, e = .returned (.slice A' (4 * l.length) cap) ∧
      Rd w' w'.heap.size A' (U8 (bytesOf l)) ∧ Below w.heap.size w w' := by
  refine (refbytes_ok l A c w hA hb hl).mono ?_
  rintro e w' ⟨v, rfl, hown, hbl⟩
  obtain ⟨A', cap, rfl, hr⟩ := own_shape hown
  exact ⟨A', cap, rfl, hr, hbl⟩

set_option maxRecDepth 100000 in
theorem wordsl_any (l ws : List Nat) (A A' : Option Addr) (c c' : Nat) (w : World) (hA : Rd w w.heap.size A (U8 l)) (hl : ∀ x ∈ l, x < 256) (hA' : Rd w w.heap.size A' (U32 ws)) (hw : ∀ x ∈ ws, x < 4294967296)
    (h1 : l.length ≤ 4000) (h2 : ws.length ≤ 1000) :
    Calls Try.prog 4 #[.slice A l.length c, .slice A' ws.length c'] w fun e w' => e = .returned (.bool true) ∧ Below w.heap.size w w' := by
  have HL := Lib.hid hl
  have HW := Lib.hid hw
  clear hl hw
  by_cases h4 : l.length % 4 = 0
  · have H4 := Lib.hid h4
    clear h4
    go_enter Try.func4, Try.ntmps4
    go_wp2_with fail
    refine (words_rd l A c _ hA HL.out h1 H4.out).mono ?_
    rintro e w1 ⟨g1, c1, rfl, hr1, hbl⟩
    replace hA := hA.next hbl
    replace hA' := hA'.next hbl
    go_wp2_with fail
    refine (refwords_rd l A c _ hA HL.out h1 H4.out).mono ?_
    rintro e w2 ⟨A2, c2, rfl, hr2, hb2⟩
    replace hr1 := hr1.next hb2
    replace hA' := hA'.next hb2
    replace hbl := hbl.trans (hb2.mono hbl.size)
    clear hb2 hA
    go_wp2_with fail
    refine (turned_any _).mono ?_
    rintro e w3 ⟨rfl, hb3⟩
    replace hr1 := hr1.next hb3
    replace hr2 := hr2.next hb3
    replace hA' := hA'.next hb3
    replace hbl := hbl.trans (hb3.mono hbl.size)
    clear hb3
    go_wp2_with fail
    refine (samew_len (wordsOf l) _ (length_wordsOf l).symm _ A2 c1 c2 _ _ hr1 hr2 (by unfold maxLen; omega)).mono ?_
    rintro e w4 ⟨rfl, hb4⟩
    replace hA' := hA'.next hb4
    replace hbl := hbl.trans (hb4.mono hbl.size)
    clear hb4 hr1 hr2
    go_wp2_with fail
    refine (bytes_rd ws A' c' _ hA' HW.out h2).mono ?_
    rintro e w5 ⟨g5, c5, rfl, hr5, hb5⟩
    replace hA' := hA'.next hb5
    replace hbl := hbl.trans (hb5.mono hbl.size)
    clear hb5
    go_wp2_with fail
    refine (refbytes_rd ws A' c' _ hA' HW.out h2).mono ?_
    rintro e w6 ⟨A6, c6, rfl, hr6, hb6⟩
    replace hr5 := hr5.next hb6
    replace hbl := hbl.trans (hb6.mono hbl.size)
    clear hb6 hA'
    go_wp2_with fail
    refine (same_len (bytesOf ws) _ (length_bytesOf ws).symm _ A6 c5 c6 _ _ hr5 hr6 (by unfold maxLen; omega)).mono ?_
    rintro e w7 ⟨rfl, hb7⟩
    go_wp2_with fail
    go_ret
    exact ⟨rfl, hbl.trans (hb7.mono hbl.size)⟩
  · have H4 := Lib.hid h4
    clear h4
    go_enter Try.func4, Try.ntmps4
    go_wp2_with fail
    refine (words_bad l A c _ h1 H4.out).mono ?_
    rintro e w' ⟨rfl, rfl⟩
    go_wp2_with fail
    refine (refwords_bad l A c _ h1 H4.out).mono ?_
    rintro e w' ⟨rfl, rfl⟩
    go_wp2_with fail
    refine (turned_any _).mono ?_
    rintro e w3 ⟨rfl, hbl⟩
    replace hA' := hA'.next hbl
    go_wp2_with fail
    refine (samew_len [] 0 rfl none none 0 0 0 _ (rd_nothing _ _ _) (rd_nothing _ _ _) (by unfold maxLen; omega)).mono ?_
    rintro e w4 ⟨rfl, hb4⟩
    replace hA' := hA'.next hb4
    replace hbl := hbl.trans (hb4.mono hbl.size)
    clear hb4
    go_wp2_with fail
    refine (bytes_rd ws A' c' _ hA' HW.out h2).mono ?_
    rintro e w5 ⟨g5, c5, rfl, hr5, hb5⟩
    replace hA' := hA'.next hb5
    replace hbl := hbl.trans (hb5.mono hbl.size)
    clear hb5
    go_wp2_with fail
    refine (refbytes_rd ws A' c' _ hA' HW.out h2).mono ?_
    rintro e w6 ⟨A6, c6, rfl, hr6, hb6⟩
    replace hr5 := hr5.next hb6
    replace hbl := hbl.trans (hb6.mono hbl.size)
    clear hb6 hA'
    go_wp2_with fail
    refine (same_len (bytesOf ws) _ (length_bytesOf ws).symm _ A6 c5 c6 _ _ hr5 hr6 (by unfold maxLen; omega)).mono ?_
    rintro e w7 ⟨rfl, hb7⟩
    go_wp2_with fail
    go_ret
    exact ⟨rfl, hbl.trans (hb7.mono hbl.size)⟩

set_option maxRecDepth 100000 in
theorem wordsl_long (n1 n2 : Nat) (A A' : Option Addr) (c c' : Nat) (w : World) (h1 : n1 ≤ 9223372036854775807) (h2 : n2 ≤ 9223372036854775807) (h : 4000 < n1 ∨ 1000 < n2) :
    Calls Try.prog 4 #[.slice A n1 c, .slice A' n2 c'] w fun e w' => e = .returned (.bool true) ∧ Below w.heap.size w w' := by
  by_cases h3 : 4000 < n1
  · clear h
    go_enter Try.func4, Try.ntmps4
    go_wp2_with fail
    go_ret
    exact ⟨rfl, Below.refl _ _⟩
  · have h3' : n1 ≤ 4000 := by omega
    have h4 : 1000 < n2 := by omega
    clear h h3
    go_enter Try.func4, Try.ntmps4
    go_wp2_with fail
    go_ret
    exact ⟨rfl, Below.refl _ _⟩

set_option maxRecDepth 100000 in
theorem wordsl_lifted (os : Os) (started : os.Started) (H : Type) (enc : TypeId × Value → H) :
    ReturnsInHanded {} Try.checked os 4 .any (Rows.bitsWordsSpec.pre6 enc Try.prog Try.f4 Rows.bitsWordsRow.domain false) (Rows.bitsWordsSpec.post enc Try.prog Try.f4 false true false false) := by
  refine returnsInHanded_of_change (C := Try.checked) Try.own started (by kernel_rfl) Try.func4
    (ChangeSpec.witness6 (enc := enc) (C := Try.checked) false ⟨#[], #[.slice none 0 0, .slice none 0 0], []⟩ 8 (by kernel_rfl) (by kernel_rfl) (by kernel_rfl) (by kernel_rfl)) ?_
  intro W base args ds gs before hval0 hW _ _
  have hval : ∀ (j : Nat) t v, Try.f4.params[j]? = some t → args[j]? = some v → Value.okWide Try.prog W .any base t v := hval0
  have hW' := hW
  obtain ⟨p, q, hA0, hV, rfl, _, _⟩ := hW'
  have hA : DataW.TrodAll enc Try.prog W 0 (fun _ => true) true Try.f4.params.toList args.toList ds p := hA0
  rw [Try.params4] at hA hval
  obtain ⟨v0, vs0, d0, ds0, p0, q0, hargs, rfl, rfl, h0, r0⟩ := trodAll_cons hA
  obtain ⟨v1, vs1, d1, ds1, p1, q1, rfl, rfl, rfl, h1, r1⟩ := trodAll_cons r0
  obtain ⟨rfl, rfl, rfl⟩ := trodAll_nil r1
  obtain rfl : args = #[v0, v1] := by cases args; simp_all
  obtain ⟨A, l, c, rfl, hr, hl, hm⟩ := open_nats Try.underlying26 Try.underlying5 Try.cells5 wf_u8 (hval 0 26 v0 rfl rfl) h0
  obtain ⟨A', ws, c', rfl, hr', hl', hm'⟩ := open_nats Try.underlying27 Try.underlying22 Try.cells22 wf_u32 (hval 1 27 v1 rfl rfl) h1
  unfold maxLen at hm hm'
  have hlaw : Calls Try.prog 4 #[.slice A l.length c, .slice A' ws.length c'] W fun e w' => e = .returned (.bool true) ∧ Below W.heap.size W w' := by
    by_cases h : 4000 < l.length ∨ 1000 < ws.length
    · exact wordsl_long _ _ A A' c c' W hm hm' h
    · exact wordsl_any l ws A A' c c' W hr hl hr' hl' (by omega) (by omega)
  refine hlaw.mono fun e W' ⟨he, hb⟩ => ?_
  subst he
  exact ⟨_, rfl, law_post Try.laidOut Try.underlying4 hW rfl (by kernel_rfl) (by kernel_rfl) rfl hb⟩

theorem bitsWords_holds : Rows.BitsWordsSaid :=
  OpenClaim.holds_of_wide 4 Try.f4 rfl rfl rfl rfl rfl rfl rfl ⟨rfl, rfl, rfl, rfl, rfl⟩ rfl rfl rfl rfl rfl (by kernel_rfl) Try.func4 (by kernel_rfl)
    (of_decide_eq_true (by kernel_rfl)) (by unfold Func.isWrapper; first | (rw [if_pos (by decide +kernel)]; kernel_rfl) | (rw [if_neg (by decide +kernel)]; exact ⟨rfl, rfl⟩))
    (fun os started H enc _ => wordsl_lifted os started H enc)
#print axioms bitsWords_holds
end Go.Proofs.Ytokhoajpkbpcdaa
