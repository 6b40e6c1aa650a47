/-
  Contract for the reference's Same, told apart: unlike rows of fields are told so. Rows of fields cut at the front or the end. Conditions: the slices read as fields.
-/
import Derived.Test.YtaldpioahnbkgaaTlvSame
import Derived.BigQuiet
import Derived.Deep.QuietTactic
namespace Go.Proofs.Ytaldpioahnbkgaa
set_option linter.unusedVariables false
open Go.ChangeShapes Go.WideShapes Go.ChangeAt Go.RowKit

theorem first_diffT : ∀ (a b : List Tf), a.length = b.length → a ≠ b → ∃ k, k < a.length ∧ a.take k = b.take k ∧ a.getD k TF0 ≠ b.getD k TF0
  | [], [], _, h => absurd rfl h
  | [], _ :: _, h, _ => by simp at h
  | _ :: _, [], h, _ => by simp at h
  | x :: a, y :: b, hl, h => by
    by_cases e : x = y
    · subst e
      obtain ⟨k, h1, h2, h3⟩ := first_diffT a b (by simpa using hl) (fun e => h (by rw [e]))
      exact ⟨k + 1, by simp; omega, by simp [h2], by simpa using h3⟩
    · exact ⟨0, by simp, by simp, by simpa using e⟩
theorem tf_ne {x y : Tf} (h : x ≠ y) : x.tag ≠ y.tag ∨ (x.tag = y.tag ∧ x.val ≠ y.val) := by
  by_cases e : x.tag = y.tag
  · refine .inr ⟨e, fun e2 => h ?_⟩
    cases x; cases y
    simp only at e e2
    rw [e, e2]
  · exact .inl e
set_option maxRecDepth 20000 in
theorem refsame_short (n n' : Nat) (hne : n ≠ n') (A A' : Option Addr) (c c' : Nat) (w : World) :
    Calls Try.prog 13 #[.slice A n c, .slice A' n' c'] w fun e w' => e = .returned (.bool false) ∧ Below w.heap.size w w' := by
  have e1 : ((n : Int) != (n' : Int)) = true := by simp; omega
  have e2 : ((n : Int) == (n' : Int)) = false := by simp; omega
  have e3 : (n != n') = true := by simpa using hne
  go_enter Try.func13, Try.ntmps13
  go_wp2
  go_ret
  exact ⟨rfl, Below.refl _ _⟩
set_option maxRecDepth 100000 in
set_option maxHeartbeats 1600000 in
theorem refsame_other (l m : List Tf) (n k : Nat) (hn : n = l.length) (hn' : n = m.length) (hk : k < n) (ht : l.take k = m.take k) (hd : l.getD k TF0 ≠ m.getD k TF0) (A A' : Option Addr) (c c' : Nat) (w : World) (hA : Ts w w.heap.size l A c) (hA' : Ts w w.heap.size m A' c') :
    Calls Try.prog 13 #[.slice A n c, .slice A' n c'] w fun e w' => e = .returned (.bool false) ∧ Below w.heap.size w w' := by
  have h1 : n ≤ 9223372036854775807 := by have h1 := hA.len; have h2 := hA.cap; omega
  have HN := Lib.hid hn
  have HN' := Lib.hid hn'
  have HT := Lib.hid ht
  have HD := Lib.hid hd
  have HA := Lib.hid hA
  have HA' := Lib.hid hA'
  clear hn hn' hA hA' ht hd
  go_enter Try.func13, Try.ntmps13
  go_wp2
  go_loopw [5] (fun i wr => ∃ j : Nat, j ≤ k ∧ i = .int .i64 j ∧ Below w.heap.size w wr) (fun i _ => n - (intOf i).toNat)
  case atStart => exact ⟨0, Nat.zero_le _, rfl, Below.refl _ _⟩
  case round =>
    obtain ⟨j, hj, rfl, hbel⟩ := hrel
    have HBL := Lib.hid hbel
    clear hbel
    have hjn : j < n := by omega
    obtain ⟨ad, S, cc, rfl, had, hk4⟩ := (HA.out.below HBL.out).rd j (by rw [← HN.out]; exact hjn)
    obtain ⟨ad', S', cc', rfl, had', hk4'⟩ := (HA'.out.below HBL.out).rd j (by rw [← HN'.out]; exact hjn)
    have hsz := HBL.out.size
    have b1 : (0 : Int) ≤ (j : Int) := by omega
    have b2 : (j : Int) < (n : Int) := by omega
    by_cases hlt : j < k
    · have he : l.getD j TF0 = m.getD j TF0 := by
        have h1 : (l.take k)[j]? = (m.take k)[j]? := by rw [HT.out]
        rw [List.getElem?_take, List.getElem?_take, if_pos hlt, if_pos hlt] at h1
        rw [List.getD_eq_getElem?_getD, List.getD_eq_getElem?_getD, h1]
      rw [he] at hk4
      clear he
      generalize m.getD j TF0 = x at *
      have HBS := Lib.hid (hk4.bs.more hsz)
      have HBS' := Lib.hid (hk4'.bs.more hsz)
      have hc0 := hk4.c0
      have hc1 := hk4.c1
      have hd0 := hk4'.c0
      have hd1 := hk4'.c1
      clear hk4 hk4'
      go_wp2
      refine wp_region_still_tail 22 (by kernel_rfl) (by kernel_rfl) ?_
      simp only [List.take_succ_cons, List.take_zero, List.drop_succ_cons, List.drop_zero]
      repeat still_step
      refine wpStill_nil ?_
      change wpList _ _ _ _ _ wr.drew
      clear hc0 hc1 hd0 hd1
      go_wp2_with fail
      refine (same_true x.val x.val.length x.val.length rfl rfl S S' cc cc' wr.drew (HBS.out.next (Below.refl _ _).drew) (HBS'.out.next (Below.refl _ _).drew)).mono ?_
      rintro e w1 ⟨rfl, hb1⟩
      have HB1 := Lib.hid (HBL.out.drew.trans (hb1.mono hsz))
      clear hb1
      go_wp2
      go_roundw
      case rel => exact ⟨j + 1, by omega, by go_num, HB1.out⟩
      case measure => simp [intOf]; omega
    · have ej : j = k := by omega
      subst ej
      have hdd := HD.out
      generalize l.getD j TF0 = x at *
      generalize m.getD j TF0 = y at *
      have HBS := Lib.hid (hk4.bs.more hsz)
      have HBS' := Lib.hid (hk4'.bs.more hsz)
      have hc0 := hk4.c0
      have hc1 := hk4.c1
      have hd0 := hk4'.c0
      have hd1 := hk4'.c1
      clear hk4 hk4' HD hlt hj
      rcases tf_ne hdd with h2 | ⟨h2, h3⟩
      · have e1 : (x.tag != y.tag) = true := by rw [bne_iff_ne]; exact h2
        have e2 : (x.tag == y.tag) = false := by rw [beq_eq_false_iff_ne]; exact h2
        clear h2 hdd
        go_wp2
        go_quiet (fail)
        go_wp2
        go_ret
        exact ⟨rfl, below_drewN HBL.out _⟩
      · have e1 : (x.tag != y.tag) = false := by rw [h2]; simp
        have e2 : (x.tag == y.tag) = true := by rw [h2]; simp
        have HV := Lib.hid (show (x.val == y.val) = false by rw [beq_eq_false_iff_ne]; exact h3)
        rw [h2] at hc0
        clear h2 hdd h3
        go_wp2
        refine wp_region_still_tail 22 (by kernel_rfl) (by kernel_rfl) ?_
        simp only [List.take_succ_cons, List.take_zero, List.drop_succ_cons, List.drop_zero]
        repeat still_step
        refine wpStill_nil ?_
        change wpList _ _ _ _ _ wr.drew
        clear hc0 hc1 hd0 hd1
        go_wp2_with fail
        refine (same_told x.val y.val false HV.out x.val.length y.val.length rfl rfl S S' cc cc' wr.drew (HBS.out.next (Below.refl _ _).drew) (HBS'.out.next (Below.refl _ _).drew)).mono ?_
        rintro e w1 ⟨rfl, hb1⟩
        have HB1 := Lib.hid (HBL.out.drew.trans (hb1.mono hsz))
        clear hb1
        go_wp2
        go_ret
        exact ⟨rfl, HB1.out⟩
theorem refsame_no (l m : List Tf) (hne : l ≠ m) (n n' : Nat) (hn : n = l.length) (hn' : n' = m.length) (A A' : Option Addr) (c c' : Nat) (w : World) (hA : Ts w w.heap.size l A c) (hA' : Ts w w.heap.size m A' c') :
    Calls Try.prog 13 #[.slice A n c, .slice A' n' c'] w fun e w' => e = .returned (.bool false) ∧ Below w.heap.size w w' := by
  by_cases h : n = n'
  · subst h
    obtain ⟨k, h1, h2, h3⟩ := first_diffT l m (by omega) hne
    exact refsame_other l m n k hn hn' (by omega) h2 h3 A A' c c' w hA hA'
  · exact refsame_short n n' h A A' c c' w
/-- The front of fields. -/
theorem Ts.take {w : World} {B : Nat} {l : List Tf} {A : Option Addr} {c : Nat} (h : Ts w B l A c) (n : Nat) (hn : n ≤ l.length) : Ts w B (l.take n) A c := by
  refine ⟨fun i hi => ?_, h.nil, by rw [List.length_take]; have := h.len; omega, h.cap⟩
  rw [List.length_take] at hi
  obtain ⟨ad, S, cc, e, hlt, hk⟩ := h.rd i (by omega)
  refine ⟨ad, S, cc, e, hlt, ?_⟩
  rwa [show (l.take n).getD i TF0 = l.getD i TF0 by rw [List.getD_eq_getElem?_getD, List.getElem?_take, if_pos (by omega), ← List.getD_eq_getElem?_getD]]
/-- What stands behind the first one. -/
theorem Ts.tail {w : World} {B : Nat} {f : Tf} {l : List Tf} {ad : Addr} {c : Nat} (h : Ts w B (f :: l) (some ad) c) : Ts w B l (some (ad.add 2)) (c - 1) := by
  have hl := h.len
  rw [List.length_cons] at hl
  refine ⟨fun i hi => ?_, by simp, by omega, by have := h.cap; omega⟩
  obtain ⟨ad', S, cc, e, hlt, hk⟩ := h.rd (i + 1) (by rw [List.length_cons]; omega)
  cases e
  refine ⟨_, S, cc, rfl, by rw [add_block]; exact hlt, ?_⟩
  rw [List.getD_cons_succ, show (i + 1) * 2 = 2 + i * 2 by omega, ← Addr.add_add] at hk
  exact hk
end Go.Proofs.Ytaldpioahnbkgaa
