/-
  Proved: for all bytes, words and two numbers the law BitsBack answers true, and leaves what came in as it was. Conditions: none beyond the statement's own.
-/
import Derived.Test.YtokhoajpkbpcdaaLaw
namespace Go.Proofs.Ytokhoajpkbpcdaa
set_option linter.unusedVariables false
open Go.ChangeShapes Go.WideShapes Go.ChangeAt Go.RowKit

theorem words_rd (l : List Nat) (A : Option Addr) (c : Nat) (w : World) (hA : Rd w w.heap.size A (U8 l)) (hb : ∀ x ∈ l, x < 256) (hl : l.length ≤ 4000) (h4 : l.length % 4 = 0) :
    Calls Try.prog 11 #[.slice A l.length c] w fun e w' => ∃ g cap, e = .returned (.tuple #[.slice (some ⟨g, 0, none⟩) (l.length / 4) cap, .int .i64 0]) ∧
      Rd w' w'.heap.size (some ⟨g, 0, none⟩) (U32 (wordsOf l)) ∧ Below w.heap.size w w' :=
  (words_ok l A c w hA hb hl h4).mono fun e w' ⟨g, cap, he, hown, hbl⟩ => ⟨g, cap, he, Rd.of_own hown, hbl⟩

theorem bytes_rd (l : List Nat) (A : Option Addr) (c : Nat) (w : World) (hA : Rd w w.heap.size A (U32 l)) (hb : ∀ x ∈ l, x < 4294967296) (hl : l.length ≤ 1000) :
    Calls Try.prog 15 #[.slice A l.length c] w fun e w' => ∃ g cap, e = .returned (.slice (some ⟨g, 0, none⟩) (4 * l.length) cap) ∧
      Rd w' w'.heap.size (some ⟨g, 0, none⟩) (U8 (bytesOf l)) ∧ Below w.heap.size w w' :=
  (bytes_ok l A c w hA hb hl).mono fun e w' ⟨g, cap, he, hown, hbl⟩ => ⟨g, cap, he, Rd.of_own hown, hbl⟩

/-- Words of bytes, made bytes: the bytes again. -/
theorem bytes_again (l : List Nat) (A : Option Addr) (c : Nat) (w : World) (hA : Rd w w.heap.size A (U32 (wordsOf l))) (hb : ∀ x ∈ l, x < 256) (hl : l.length ≤ 4000) (h4 : l.length % 4 = 0) :
    Calls Try.prog 15 #[.slice A (l.length / 4) c] w fun e w' => ∃ g cap, e = .returned (.slice (some ⟨g, 0, none⟩) l.length cap) ∧
      Rd w' w'.heap.size (some ⟨g, 0, none⟩) (U8 l) ∧ Below w.heap.size w w' := by
  have h := bytes_rd (wordsOf l) A c w hA (wordsOf_lt l hb) (by rw [length_wordsOf]; omega)
  rw [length_wordsOf, bytes_words l hb h4, show 4 * (l.length / 4) = l.length by omega] at h
  exact h

/-- Bytes of words, made words: the words again. -/
theorem words_again (l : List Nat) (A : Option Addr) (c : Nat) (w : World) (hA : Rd w w.heap.size A (U8 (bytesOf l))) (hb : ∀ x ∈ l, x < 4294967296) (hl : l.length ≤ 1000) :
    Calls Try.prog 11 #[.slice A (4 * l.length) c] w fun e w' => ∃ g cap, e = .returned (.tuple #[.slice (some ⟨g, 0, none⟩) l.length cap, .int .i64 0]) ∧
      Rd w' w'.heap.size (some ⟨g, 0, none⟩) (U32 l) ∧ Below w.heap.size w w' := by
  have h := words_rd (bytesOf l) A c w hA (bytesOf_lt l) (by rw [length_bytesOf]; omega) (by rw [length_bytesOf]; omega)
  rw [length_bytesOf, words_bytes l hb, show 4 * l.length / 4 = l.length by omega] at h
  exact h

theorem put_rd (n size : Nat) (w : World) (hn : n < 9223372036854775808) (hs : size ≤ 8) (h : n < 256 ^ size) :
    Calls Try.prog 17 #[.int .i64 n, .int .i64 size] w fun e w' => ∃ g cap, e = .returned (.tuple #[.slice (some ⟨g, 0, none⟩) size cap, .int .i64 0]) ∧
      Rd w' w'.heap.size (some ⟨g, 0, none⟩) (U8 (putB n size)) ∧ Below w.heap.size w w' :=
  (put_ok n size w hn hs h).mono fun e w' ⟨g, cap, he, hown, hbl⟩ => ⟨g, cap, he, Rd.of_own hown, hbl⟩

theorem putB_first (n : Nat) (hn : n < 9223372036854775808) : (putB n 8).getD 0 0 < 128 := by
  simp [putB]; omega
/-- What was put is got again. -/
theorem get_again (n size : Nat) (A : Option Addr) (c B : Nat) (w : World) (hA : Rd w B A (U8 (putB n size))) (hn : n < 9223372036854775808) (hs : size ≤ 8) (h : n < 256 ^ size) :
    Calls Try.prog 19 #[.slice A size c] w fun e w' => e = .returned (.tuple #[.int .i64 n, .int .i64 0]) ∧ w = w' := by
  have k := get_ok (putB n size) A c B w hA (putB_lt n size) (by rw [length_putB]; exact hs) (by rw [length_putB]; rintro rfl; exact putB_first n hn)
  rw [length_putB, valB_putB, Nat.mod_eq_of_lt h] at k
  exact k

/-- The three ways of Put, told apart. -/
theorem put_ways (n size : Int) (h1 : n ≤ 9223372036854775807) : (size < 0 ∨ 8 < size ∨ n < 0) ∨ ∃ N S : Nat, n = N ∧ size = S ∧ N < 9223372036854775808 ∧ S ≤ 8 ∧ (256 ^ S ≤ N ∨ N < 256 ^ S) := by
  by_cases h : size < 0 ∨ 8 < size ∨ n < 0
  · exact .inl h
  · exact .inr ⟨n.toNat, size.toNat, by omega, by omega, by omega, by omega, by omega⟩

set_option maxRecDepth 100000 in
theorem back_any (l ws : List Nat) (A A' : Option Addr) (c c' : Nat) (n size : Int) (w : World) (hA : Rd w w.heap.size A (U8 l)) (hl : ∀ x ∈ l, x < 256) (hA' : Rd w w.heap.size A' (U32 ws)) (hw : ∀ x ∈ ws, x < 4294967296)
    (h1 : l.length ≤ 4000) (h2 : ws.length ≤ 1000) (hn : n ≤ 9223372036854775807) :
    Calls Try.prog 6 #[.slice A l.length c, .slice A' ws.length c', .int .i64 n, .int .i64 size] w fun e w' => e = .returned (.bool true) ∧ Below w.heap.size w w' := by
  have hput := put_ways n size hn
  have HL := Lib.hid hl
  have HW := Lib.hid hw
  have HP := Lib.hid hput
  clear hl hw hput
  by_cases h4 : l.length % 4 = 0
  · have H4 := Lib.hid h4
    clear h4
    go_enter Try.func6, Try.ntmps6
    go_wp2_with fail
    refine (words_rd l A c _ hA HL.out h1 H4.out).mono ?_
    rintro e w1 ⟨g1, c1, rfl, hr1, hbl⟩
    replace hA := hA.next hbl
    replace hA' := hA'.next hbl
    go_wp2_with fail
    refine (bytes_again l _ c1 _ hr1 HL.out h1 H4.out).mono ?_
    rintro e w2 ⟨g2, c2, rfl, hr2, hb2⟩
    replace hA := hA.next hb2
    replace hA' := hA'.next hb2
    replace hbl := hbl.trans (hb2.mono hbl.size)
    clear hb2 hr1
    go_wp2_with fail
    refine (same_eq l _ A c2 c _ _ hr2 hA (by unfold maxLen; omega)).mono ?_
    rintro e w3 ⟨rfl, hb3⟩
    replace hA' := hA'.next hb3
    replace hbl := hbl.trans (hb3.mono hbl.size)
    clear hb3 hr2 hA
    go_wp2_with fail
    refine (bytes_rd ws A' c' _ hA' HW.out h2).mono ?_
    rintro e w4 ⟨g4, c4, rfl, hr4, hb4⟩
    replace hA' := hA'.next hb4
    replace hbl := hbl.trans (hb4.mono hbl.size)
    clear hb4
    go_wp2_with fail
    refine (words_again ws _ c4 _ hr4 HW.out h2).mono ?_
    rintro e w5 ⟨g5, c5, rfl, hr5, hb5⟩
    replace hA' := hA'.next hb5
    replace hbl := hbl.trans (hb5.mono hbl.size)
    clear hb5 hr4
    go_wp2_with fail
    refine (samew_eq ws _ A' c5 c' _ _ hr5 hA' (by unfold maxLen; omega)).mono ?_
    rintro e w6 ⟨rfl, hb6⟩
    replace hbl := hbl.trans (hb6.mono hbl.size)
    clear hb6 hr5 hA'
    go_wp2_with fail
    rcases HP.out with hp | ⟨N, S, rfl, rfl, hN, hS, hp | hp⟩
    · refine (put_arg n size _ hp).mono ?_
      rintro e w' ⟨rfl, rfl⟩
      go_wp2_with fail
      refine (turned_any _).mono ?_
      rintro e w7 ⟨rfl, hb7⟩
      go_wp2_with fail
      go_ret
      exact ⟨rfl, hbl.trans (hb7.mono hbl.size)⟩
    · refine (put_over N S _ hN hS hp).mono ?_
      rintro e w' ⟨rfl, rfl⟩
      clear hp
      go_wp2_with fail
      refine (turned_any _).mono ?_
      rintro e w7 ⟨rfl, hb7⟩
      go_wp2_with fail
      go_ret
      exact ⟨rfl, hbl.trans (hb7.mono hbl.size)⟩
    · refine (put_rd N S _ hN hS hp).mono ?_
      rintro e w7 ⟨g7, c7, rfl, hr7, hb7⟩
      replace hbl := hbl.trans (hb7.mono hbl.size)
      have HP2 := Lib.hid hp
      clear hb7 hp
      go_wp2_with fail
      refine (get_again N S _ c7 _ _ hr7 hN hS HP2.out).mono ?_
      rintro e w' ⟨rfl, rfl⟩
      go_wp2_with fail
      refine (turned_any _).mono ?_
      rintro e w8 ⟨rfl, hb8⟩
      go_wp2_with fail
      go_ret
      exact ⟨by simp, hbl.trans (hb8.mono hbl.size)⟩
  · have H4 := Lib.hid h4
    clear h4
    have hbl := Below.refl w.heap.size w
    go_enter Try.func6, Try.ntmps6
    go_wp2_with fail
    refine (words_bad l A c _ h1 H4.out).mono ?_
    rintro e w' ⟨rfl, rfl⟩
    go_wp2_with fail
    refine (bytes_rd ws A' c' _ hA' HW.out h2).mono ?_
    rintro e w4 ⟨g4, c4, rfl, hr4, hb4⟩
    replace hA' := hA'.next hb4
    replace hbl := hbl.trans (hb4.mono hbl.size)
    clear hb4
    go_wp2_with fail
    refine (words_again ws _ c4 _ hr4 HW.out h2).mono ?_
    rintro e w5 ⟨g5, c5, rfl, hr5, hb5⟩
    replace hA' := hA'.next hb5
    replace hbl := hbl.trans (hb5.mono hbl.size)
    clear hb5 hr4
    go_wp2_with fail
    refine (samew_eq ws _ A' c5 c' _ _ hr5 hA' (by unfold maxLen; omega)).mono ?_
    rintro e w6 ⟨rfl, hb6⟩
    replace hbl := hbl.trans (hb6.mono hbl.size)
    clear hb6 hr5 hA'
    go_wp2_with fail
    rcases HP.out with hp | ⟨N, S, rfl, rfl, hN, hS, hp | hp⟩
    · refine (put_arg n size _ hp).mono ?_
      rintro e w' ⟨rfl, rfl⟩
      go_wp2_with fail
      refine (turned_any _).mono ?_
      rintro e w7 ⟨rfl, hb7⟩
      go_wp2_with fail
      go_ret
      exact ⟨rfl, hbl.trans (hb7.mono hbl.size)⟩
    · refine (put_over N S _ hN hS hp).mono ?_
      rintro e w' ⟨rfl, rfl⟩
      clear hp
      go_wp2_with fail
      refine (turned_any _).mono ?_
      rintro e w7 ⟨rfl, hb7⟩
      go_wp2_with fail
      go_ret
      exact ⟨rfl, hbl.trans (hb7.mono hbl.size)⟩
    · refine (put_rd N S _ hN hS hp).mono ?_
      rintro e w7 ⟨g7, c7, rfl, hr7, hb7⟩
      replace hbl := hbl.trans (hb7.mono hbl.size)
      have HP2 := Lib.hid hp
      clear hb7 hp
      go_wp2_with fail
      refine (get_again N S _ c7 _ _ hr7 hN hS HP2.out).mono ?_
      rintro e w' ⟨rfl, rfl⟩
      go_wp2_with fail
      refine (turned_any _).mono ?_
      rintro e w8 ⟨rfl, hb8⟩
      go_wp2_with fail
      go_ret
      exact ⟨by simp, hbl.trans (hb8.mono hbl.size)⟩

set_option maxRecDepth 100000 in
theorem back_long (n1 n2 : Nat) (A A' : Option Addr) (c c' : Nat) (n size : Int) (w : World) (h1 : n1 ≤ 9223372036854775807) (h2 : n2 ≤ 9223372036854775807) (h : 4000 < n1 ∨ 1000 < n2) :
    Calls Try.prog 6 #[.slice A n1 c, .slice A' n2 c', .int .i64 n, .int .i64 size] w fun e w' => e = .returned (.bool true) ∧ Below w.heap.size w w' := by
  by_cases h3 : 4000 < n1
  · clear h
    go_enter Try.func6, Try.ntmps6
    go_wp2_with fail
    go_ret
    exact ⟨rfl, Below.refl _ _⟩
  · have h3' : n1 ≤ 4000 := by omega
    have h4 : 1000 < n2 := by omega
    clear h h3
    go_enter Try.func6, Try.ntmps6
    go_wp2_with fail
    go_ret
    exact ⟨rfl, Below.refl _ _⟩

set_option maxRecDepth 100000 in
theorem back_lifted (os : Os) (started : os.Started) (H : Type) (enc : TypeId × Value → H) :
    ReturnsInHanded {} Try.checked os 6 .any (Rows.bitsBackSpec.pre6 enc Try.prog Try.f6 Rows.bitsBackRow.domain false) (Rows.bitsBackSpec.post enc Try.prog Try.f6 false true false false) := by
  refine returnsInHanded_of_change (C := Try.checked) Try.own started (by kernel_rfl) Try.func6
    (ChangeSpec.witness6 (enc := enc) (C := Try.checked) false ⟨#[], #[.slice none 0 0, .slice none 0 0, .int .i64 0, .int .i64 0], []⟩ 8 (by kernel_rfl) (by kernel_rfl) (by kernel_rfl) (by kernel_rfl)) ?_
  intro W base args ds gs before hval0 hW _ _
  have hval : ∀ (j : Nat) t v, Try.f6.params[j]? = some t → args[j]? = some v → Value.okWide Try.prog W .any base t v := hval0
  have hW' := hW
  obtain ⟨p, q, hA0, hV, rfl, _, _⟩ := hW'
  have hA : DataW.TrodAll enc Try.prog W 0 (fun _ => true) true Try.f6.params.toList args.toList ds p := hA0
  rw [Try.params6] at hA hval
  obtain ⟨v0, vs0, d0, ds0, p0, q0, hargs, rfl, rfl, h0, r0⟩ := trodAll_cons hA
  obtain ⟨v1, vs1, d1, ds1, p1, q1, rfl, rfl, rfl, h1, r1⟩ := trodAll_cons r0
  obtain ⟨v2, vs2, d2, ds2, p2, q2, rfl, rfl, rfl, h2, r2⟩ := trodAll_cons r1
  obtain ⟨v3, vs3, d3, ds3, p3, q3, rfl, rfl, rfl, h3, r3⟩ := trodAll_cons r2
  obtain ⟨rfl, rfl, rfl⟩ := trodAll_nil r3
  obtain rfl : args = #[v0, v1, v2, v3] := by cases args; simp_all
  obtain ⟨A, l, c, rfl, hr, hl, hm⟩ := open_nats Try.underlying26 Try.underlying5 Try.cells5 wf_u8 (hval 0 26 v0 rfl rfl) h0
  obtain ⟨A', ws, c', rfl, hr', hl', hm'⟩ := open_nats Try.underlying27 Try.underlying22 Try.cells22 wf_u32 (hval 1 27 v1 rfl rfl) h1
  obtain ⟨a2, rfl, _, _, f2⟩ := open_int Try.underlying3 (hval 2 3 v2 rfl rfl) h2
  obtain ⟨a3, rfl, _, _, f3⟩ := open_int Try.underlying3 (hval 3 3 v3 rfl rfl) h3
  have b2 := wf_i64 _ f2
  unfold maxLen at hm hm'
  have hlaw : Calls Try.prog 6 #[.slice A l.length c, .slice A' ws.length c', .int .i64 a2, .int .i64 a3] W fun e w' => e = .returned (.bool true) ∧ Below W.heap.size W w' := by
    by_cases h : 4000 < l.length ∨ 1000 < ws.length
    · exact back_long _ _ A A' c c' a2 a3 W hm hm' h
    · exact back_any l ws A A' c c' a2 a3 W hr hl hr' hl' (by omega) (by omega) b2.2
  refine hlaw.mono fun e W' ⟨he, hb⟩ => ?_
  subst he
  exact ⟨_, rfl, law_post Try.laidOut Try.underlying4 hW rfl (by kernel_rfl) (by kernel_rfl) rfl hb⟩

theorem bitsBack_holds : Rows.BitsBackSaid :=
  OpenClaim.holds_of_wide 6 Try.f6 rfl rfl rfl rfl rfl rfl rfl ⟨rfl, rfl, rfl, rfl, rfl⟩ rfl rfl rfl rfl rfl (by kernel_rfl) Try.func6 (by kernel_rfl)
    (of_decide_eq_true (by kernel_rfl)) (by unfold Func.isWrapper; first | (rw [if_pos (by decide +kernel)]; kernel_rfl) | (rw [if_neg (by decide +kernel)]; exact ⟨rfl, rfl⟩))
    (fun os started H enc _ => back_lifted os started H enc)
#print axioms bitsBack_holds
end Go.Proofs.Ytokhoajpkbpcdaa
