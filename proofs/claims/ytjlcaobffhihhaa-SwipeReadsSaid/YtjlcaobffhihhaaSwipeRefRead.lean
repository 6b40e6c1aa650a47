/-
  Contract for the reference's Read. Conditions: the slice reads as bytes; at most 1000 of them.
-/
import Derived.Test.YtjlcaobffhihhaaSwipeRefTurn
import Derived.Test.YtjlcaobffhihhaaTrackRefGet
namespace Go.Proofs.Ytjlcaobffhihhaa
set_option linter.unusedVariables false
open Go.ChangeShapes Go.WideShapes Go.ChangeAt Go.RowKit

set_option maxRecDepth 100000 in
set_option maxHeartbeats 1600000 in
theorem refread_any (b : List Nat) (n : Nat) (hn : n = b.length) (hn2 : n ≤ 1000) (E : Int) (hE : readE b = E) (o : Bool) (ho : readO b = o) (p : List Nat) (hP : readL b = p) (A : Option Addr) (c : Nat) (w : World) (hA : Bs w w.heap.size b A c) : Calls Try.prog 12 #[.slice A n c] w fun e w' => ∃ A' c', e = .returned (.tuple #[.slice A' (p.length : Nat) c', .bool o, .int .i64 E]) ∧ Bs w' w'.heap.size p A' c' ∧ Below w.heap.size w w' := by
  have HN := Lib.hid hn
  have HA := Lib.hid hA
  have HE := Lib.hid hE
  have HO := Lib.hid ho
  have HP := Lib.hid hP
  obtain ⟨E1, hE1⟩ : ∃ E1, getE b = E1 := ⟨_, rfl⟩
  obtain ⟨E2, hE2⟩ : ∃ E2, getE (turnL b) = E2 := ⟨_, rfl⟩
  obtain ⟨p1, hp1⟩ : ∃ p1, getL b = p1 := ⟨_, rfl⟩
  obtain ⟨p2, hp2⟩ : ∃ p2, getL (turnL b) = p2 := ⟨_, rfl⟩
  have HE1 := Lib.hid hE1
  have HE2 := Lib.hid hE2
  have Hp1 := Lib.hid hp1
  have Hp2 := Lib.hid hp2
  clear hn hA hE ho hP hE1 hE2 hp1 hp2
  go_enter Try.func12, Try.ntmps12
  go_wp2_with fail
  refine (refget11_any b n HN.out (by omega) E1 HE1.out p1 Hp1.out A c w HA.out).mono ?_
  rintro e w1 ⟨AG, cG, rfl, hs, hb⟩
  have HS := Lib.hid hs
  have HB1 := Lib.hid hb
  have HA1 := Lib.hid (HA.out.next hb)
  clear hs hb
  cases q : (E1 == 0)
  · have hne : E1 ≠ 0 := by rw [beq_eq_false_iff_ne] at q; exact q
    have HNE := Lib.hid hne
    clear hne
    go_wp2_with fail
    refine (refturn_any b n HN.out (by omega) A c w1 HA1.out).mono ?_
    rintro e w2 ⟨AT, cT, rfl, hs, hb⟩
    have HT := Lib.hid hs
    have HB2 := Lib.hid (HB1.out.trans (hb.mono HB1.out.size))
    clear hs hb
    go_wp2_with fail
    refine (refget11_any (turnL b) n (by rw [turn_len]; exact HN.out) (by omega) E2 HE2.out p2 Hp2.out AT cT w2 HT.out).mono ?_
    rintro e w3 ⟨AH, cH, rfl, hs, hb⟩
    have HS3 := Lib.hid hs
    have HB3 := Lib.hid (HB2.out.trans (hb.mono HB2.out.size))
    clear hs hb
    cases q2 : (E2 == 0)
    · have hne2 : E2 ≠ 0 := by rw [beq_eq_false_iff_ne] at q2; exact q2
      obtain ⟨h1, h2, h3⟩ := read_none (by rw [HE1.out]; exact HNE.out) (by rw [HE2.out]; exact hne2)
      have eE : E = E1 := HE.out.symm.trans (h1.trans HE1.out)
      have eO : o = false := HO.out.symm.trans h2
      have eP : p = [] := HP.out.symm.trans h3
      subst eE eO eP
      clear h1 h2 h3 hne2
      go_wp2
      go_ret3
      exact ⟨none, 0, rfl, ⟨by intro k u hu; simp [U8] at hu, fun _ => rfl, by simp, by omega, by simp⟩, HB3.out⟩
    · have hz : E2 = 0 := by rw [beq_iff_eq] at q2; exact q2
      subst hz
      obtain ⟨h1, h2, h3⟩ := read_second (by rw [HE1.out]; exact HNE.out) HE2.out
      have eE : E = 0 := HE.out.symm.trans h1
      have eO : o = true := HO.out.symm.trans h2
      have eP : p = p2 := HP.out.symm.trans (h3.trans Hp2.out)
      subst eE eO eP
      clear h1 h2 h3 q q2
      go_wp2
      go_ret3
      exact ⟨_, _, rfl, HS3.out, HB3.out⟩
  · have hz : E1 = 0 := by rw [beq_iff_eq] at q; exact q
    subst hz
    obtain ⟨h1, h2, h3⟩ := read_first HE1.out
    have eE : E = 0 := HE.out.symm.trans h1
    have eO : o = false := HO.out.symm.trans h2
    have eP : p = p1 := HP.out.symm.trans (h3.trans Hp1.out)
    subst eE eO eP
    clear h1 h2 h3 q
    go_wp2
    go_ret3
    exact ⟨_, _, rfl, HS.out, HB1.out⟩
end Go.Proofs.Ytjlcaobffhihhaa
