/-
  Contract for the landed fields. Conditions: none.
-/
import Derived.Test.YtpeccmcojocgkaaLayPFields0
import Derived.Laws.EntriesVeiled
namespace Go.Proofs.Ytpeccmcojocgkaa
set_option linter.unusedVariables false
open Go.ChangeShapes Go.WideShapes Go.ChangeAt Go.RowKit

theorem flat_take {α : Type} (l : List (List α)) (j : Nat) (x : List α) (h : l[j]? = some x) : (l.take (j + 1)).flatten = (l.take j).flatten ++ x := by
  rw [List.take_add_one, h]; simp
theorem partsL_le (k : Int) : (partsL k).length ≤ 4 := by
  unfold partsL
  split
  · decide
  · split
    · decide
    · split <;> decide
theorem fields_le (k : Int) (j : Nat) : ((partsL k).take j).flatten.length ≤ 13 := by
  have h1 : ((partsL k).take j).flatten.length ≤ (partsL k).flatten.length := by
    conv => rhs; rw [← List.take_append_drop j (partsL k), List.flatten_append, List.length_append]
    omega
  have h2 := fieldsL_len k
  have h3 := widL_le k
  rw [fieldsL] at h2
  omega
set_option maxRecDepth 100000 in
set_option maxHeartbeats 1600000 in
theorem pfields_far (k : Int) (n : Nat) (hn : n = (fieldsL k).length) (X : Nat) (w : World) : Calls Try.prog 21 #[.pointer (some ⟨X, 0, none⟩), .int .i64 k] w fun e w' => ∃ A c, e = .returned (.slice A n c) ∧ Fs w' w'.heap.size X (fieldsL k) A c ∧ Below w.heap.size w w' ∧ ∀ ad, A = some ad → w.heap.size ≤ ad.block := by
  obtain ⟨i0, hi, hz0, hz1, hz2⟩ := info_parts infoFd
  obtain ⟨m, hm⟩ : ∃ m, m = (partsL k).length := ⟨_, rfl⟩
  have hm4 : m ≤ 4 := by rw [hm]; exact partsL_le k
  have HM := Lib.hid hm
  have HN := Lib.hid hn
  clear hm hn
  go_enter Try.func21, Try.ntmps21
  go_wp2_with fail
  refine (ppartsOf_any k m HM.out w).mono ?_
  rintro e w1 ⟨A, c, rfl, hrd, hb1⟩
  have HR := Lib.hid hrd
  have HB1 := Lib.hid hb1
  clear hrd hb1
  go_wp2
  go_loopw [5, 7, 11] (fun v _ i wr => ∃ j : Nat, j ≤ m ∧ i = .int .i64 j ∧ wr.ownsRow w1.heap.size 53 2 v ((partsL k).take j).flatten.length (FL X ((partsL k).take j).flatten) ∧ Below w1.heap.size w1 wr) (fun _ _ i _ => m - (intOf i).toNat)
  case atStart => exact ⟨0, Nat.zero_le _, rfl, ⟨rfl, .inl ⟨rfl, rfl⟩⟩, Below.refl _ _⟩
  case round =>
    obtain ⟨j, hj, rfl, hown, hbel⟩ := hrel
    have HO := Lib.hid hown
    have HBL := Lib.hid hbel
    clear hown hbel
    by_cases hlt : j < m
    · have hjl : j < (partsL k).length := by rw [← HM.out]; exact hlt
      have hjv : j < (partsV k).length := by rw [partsV_len]; exact hjl
      obtain ⟨x, hx⟩ : ∃ x, (partsL k)[j]? = some x := ⟨_, List.getElem?_eq_getElem hjl⟩
      obtain ⟨y, hy⟩ : ∃ y, (partsV k)[j]? = some y := ⟨_, List.getElem?_eq_getElem hjv⟩
      obtain ⟨K, rfl, h7, hent, hcon⟩ := parts_ok k j y x hy hx
      obtain ⟨ad, rfl, hb, hc⟩ := (HR.out.next HBL.out) j _ hy
      have hle := fields_le k j
      have HX := Lib.hid hx
      have HC := Lib.hid hcon
      obtain ⟨q, hq⟩ : ∃ q, q = x.length := ⟨_, rfl⟩
      rw [← hq] at h7
      have HQ := Lib.hid hq
      obtain ⟨p, hp⟩ : ∃ p, p = ((partsL k).take j).flatten.length := ⟨_, rfl⟩
      rw [← hp] at hle
      have HP := Lib.hid hp
      have HO1 : Hid (_) := Lib.hid (hp ▸ HO.out)
      have b1 : (0 : Int) ≤ (j : Int) := by omega
      have b2 : (j : Int) < (m : Int) := by omega
      clear hjl hjv hx hy hcon hq hp
      go_wp2_with (first | (refine (HC.out X _).mono ?_; rintro e w2 ⟨A2, rfl, hrd2, hb2⟩; have HR2 := Lib.hid hrd2; have HBD := Lib.hid hb2; have HBL1 := Lib.hid (HBL.out.trans (hb2.mono HBL.out.size)); clear hrd2 hb2; try rw [← HQ.out]) | (at_builtin; refine wpList_append_own _ rfl _ _ 49 rfl w1.heap.size 53 i0 (.agg #[.pointer none, .int .i64 0]) 2 16 Try.underlying49 hi hz0 hz1 hz2 rfl (by decide) _ p _ rfl (own_below HO1.out HBD.out) A2 q q (FL X x) rfl (by rw [FL_len, HQ.out]) (fun a u hu => by obtain ⟨ad, e, _, hc⟩ := HR2.out a u hu; cases e; exact hc) (FL_one X x) (by unfold maxLen; omega) (by omega) HBL1.out.size ?_; intro v' w3 hown' hgrow _))
      have hbel2 : Below w1.heap.size w1 w3 := HBL1.out.grown hgrow HBL1.out.size (fun j hj => own_ge (own_below HO1.out HBD.out) hj)
      have HO2 : Hid (w3.ownsRow w1.heap.size 53 2 v' ((partsL k).take (j + 1)).flatten.length (FL X ((partsL k).take (j + 1)).flatten)) := Lib.hid (by
        rw [flat_take _ j x HX.out, FL_append, List.length_append, ← HP.out, ← HQ.out]; exact hown')
      clear hown' hgrow
      go_wp2
      go_roundw
      case rel => exact ⟨j + 1, by omega, by go_num, HO2.out, hbel2⟩
      case measure => simp [intOf]; omega
    · have e1 : j = m := by omega
      subst e1
      obtain ⟨A2, c2, rfl, hl, hfs, hfar⟩ := fs_of_own HO.out
      have HFA := Lib.hid hfar
      have e2 : ((partsL k).take j).flatten = fieldsL k := by rw [List.take_of_length_le (by rw [← HM.out]; omega), fieldsL]
      rw [e2] at hfs
      have e3 : ((partsL k).take j).flatten.length = n := by rw [e2, HN.out]
      rw [e3]
      have HFS := Lib.hid hfs
      have HB2 := Lib.hid (HB1.out.trans (HBL.out.mono HB1.out.size))
      clear hl hfs hfar e2 e3
      go_wp2
      go_ret
      exact ⟨A2, c2, rfl, HFS.out, HB2.out, fun ad e => Nat.le_trans HB1.out.size (HFA.out ad e)⟩
theorem pfields_any (k : Int) (n : Nat) (hn : n = (fieldsL k).length) (X : Nat) (w : World) : Calls Try.prog 21 #[.pointer (some ⟨X, 0, none⟩), .int .i64 k] w fun e w' => ∃ A c, e = .returned (.slice A n c) ∧ Fs w' w'.heap.size X (fieldsL k) A c ∧ Below w.heap.size w w' :=
  (pfields_far k n hn X w).mono fun e w' ⟨A, c, h1, h2, h3, _⟩ => ⟨A, c, h1, h2, h3⟩
end Go.Proofs.Ytpeccmcojocgkaa
