/-
  Law SwipeOnce walked: it answers true. Conditions: the slice reads as bytes, at most 1048576 of them.
-/
import Derived.Test.YtjlcaobffhihhaaSwiped
import Derived.Test.YtjlcaobffhihhaaTrackFacts
namespace Go.Proofs.Ytjlcaobffhihhaa
set_option linter.unusedVariables false
open Go.ChangeShapes Go.WideShapes Go.ChangeAt Go.RowKit

set_option maxRecDepth 100000 in
set_option maxHeartbeats 1600000 in
theorem once14_any (b : List Nat) (n : Nat) (hn : n = b.length) (hn2 : n ≤ 1048576) (A : Option Addr) (c : Nat) (w : World) (hA : Bs w w.heap.size b A c) : Calls Try.prog 6 #[.slice A n c] w fun e w' => e = .returned (.bool true) ∧ Below w.heap.size w w' := by
  have h1 := hA.len
  have h2 := hA.cap
  have hn3 : n ≤ 9223372036854775807 := by omega
  have HN := Lib.hid hn
  have B1 := Lib.hid hA
  have HBL := Lib.hid (Below.refl w.heap.size w)
  clear h1 h2 hn hA
  obtain ⟨E, hE⟩ : ∃ E, readE b = E := ⟨_, rfl⟩
  obtain ⟨o, hO⟩ : ∃ o, readO b = o := ⟨_, rfl⟩
  obtain ⟨p, hP⟩ : ∃ p, readL b = p := ⟨_, rfl⟩
  have HE := Lib.hid hE
  have HO := Lib.hid hO
  have HP := Lib.hid hP
  clear hE hO hP
  by_cases e1 : getE b = 0
  · have hr := read_first e1
    have hx := put_get (get_zero e1)
    have hb := getE_len e1
    rw [← HN.out] at hb
    have p0 : ¬ ((1000 : Int) < (n : Int)) := by omega
    have eE : E = 0 := HE.out.symm.trans hr.1
    have eO : o = false := HO.out.symm.trans hr.2.1
    have eP : getL b = p := hr.2.2.symm.trans HP.out
    rw [eP] at hx
    subst eE eO
    have HPE := Lib.hid hx.1
    have HPP := Lib.hid hx.2
    have HPL := Lib.hid (show p.length ≤ 77 from (putE_ok hx.1).1)
    clear hr hx eP e1 hb
    go_enter Try.func6, Try.ntmps6
    go_wp2_with fail
    refine (pread_any b n HN.out hn2 0 HE.out false HO.out p HP.out A c w B1.out).mono ?_
    rintro e w1 ⟨AR1, cR1, rfl, hs, hb⟩
    replace B1 := Lib.hid (B1.out.next hb)
    replace HBL := Lib.hid (HBL.out.trans (hb.mono HBL.out.size))
    have R1 := Lib.hid hs
    clear hb hs
    go_wp2_with fail
    refine (pput_any p p.length rfl (by have := HPL.out; omega) 0 HPE.out b HPP.out AR1 cR1 w1 R1.out).mono ?_
    rintro e w2 ⟨AP1, cP1, rfl, hs, hb⟩
    replace B1 := Lib.hid (B1.out.next hb)
    replace R1 := Lib.hid (R1.out.next hb)
    replace HBL := Lib.hid (HBL.out.trans (hb.mono HBL.out.size))
    have P1 := Lib.hid hs
    clear hb hs
    go_wp2_with fail
    refine (swiped_any w2).mono ?_
    rintro e w3 ⟨rfl, hb⟩
    replace B1 := Lib.hid (B1.out.next hb)
    replace R1 := Lib.hid (R1.out.next hb)
    replace P1 := Lib.hid (P1.out.next hb)
    replace HBL := Lib.hid (HBL.out.trans (hb.mono HBL.out.size))
    clear hb
    go_wp2_with fail
    refine (same_true b b.length n rfl HN.out AP1 A cP1 c w3 P1.out B1.out).mono ?_
    rintro e w4 ⟨rfl, hb⟩
    replace B1 := Lib.hid (B1.out.next hb)
    replace R1 := Lib.hid (R1.out.next hb)
    replace P1 := Lib.hid (P1.out.next hb)
    replace HBL := Lib.hid (HBL.out.trans (hb.mono HBL.out.size))
    clear hb
    go_wp2
    go_ret
    exact ⟨rfl, HBL.out⟩
  · by_cases e2 : getE (turnL b) = 0
    · have hr := read_second e1 e2
      have hx := put_get (get_zero e2)
      have hb := getE_len e2
      rw [turn_len, ← HN.out] at hb
      have p0 : ¬ ((1000 : Int) < (n : Int)) := by omega
      have eE : E = 0 := HE.out.symm.trans hr.1
      have eO : o = true := HO.out.symm.trans hr.2.1
      have eP : getL (turnL b) = p := hr.2.2.symm.trans HP.out
      rw [eP] at hx
      subst eE eO
      have HPE := Lib.hid hx.1
      have HPP := Lib.hid hx.2
      have HPL := Lib.hid (show p.length ≤ 77 from (putE_ok hx.1).1)
      have HTN := Lib.hid (show n = (turnL b).length by rw [turn_len]; exact HN.out)
      clear hr hx eP e1 e2 hb
      go_enter Try.func6, Try.ntmps6
      go_wp2_with fail
      refine (pread_any b n HN.out hn2 0 HE.out true HO.out p HP.out A c w B1.out).mono ?_
      rintro e w1 ⟨AR1, cR1, rfl, hs, hb⟩
      replace B1 := Lib.hid (B1.out.next hb)
      replace HBL := Lib.hid (HBL.out.trans (hb.mono HBL.out.size))
      have R1 := Lib.hid hs
      clear hb hs
      go_wp2_with fail
      refine (pput_any p p.length rfl (by have := HPL.out; omega) 0 HPE.out (turnL b) HPP.out AR1 cR1 w1 R1.out).mono ?_
      rintro e w2 ⟨AP1, cP1, rfl, hs, hb⟩
      replace B1 := Lib.hid (B1.out.next hb)
      replace R1 := Lib.hid (R1.out.next hb)
      replace HBL := Lib.hid (HBL.out.trans (hb.mono HBL.out.size))
      have P1 := Lib.hid hs
      clear hb hs
      go_wp2_with fail
      refine (swiped_any w2).mono ?_
      rintro e w3 ⟨rfl, hb⟩
      replace B1 := Lib.hid (B1.out.next hb)
      replace R1 := Lib.hid (R1.out.next hb)
      replace P1 := Lib.hid (P1.out.next hb)
      replace HBL := Lib.hid (HBL.out.trans (hb.mono HBL.out.size))
      clear hb
      go_wp2_with fail
      refine (pturn_any b n HN.out hn2 A c w3 B1.out).mono ?_
      rintro e w4 ⟨AT1, cT1, rfl, hs, hb⟩
      replace B1 := Lib.hid (B1.out.next hb)
      replace R1 := Lib.hid (R1.out.next hb)
      replace P1 := Lib.hid (P1.out.next hb)
      replace HBL := Lib.hid (HBL.out.trans (hb.mono HBL.out.size))
      have T1 := Lib.hid hs
      clear hb hs
      go_wp2_with fail
      refine (same_true (turnL b) (turnL b).length n rfl HTN.out AP1 AT1 cP1 cT1 w4 P1.out T1.out).mono ?_
      rintro e w5 ⟨rfl, hb⟩
      replace B1 := Lib.hid (B1.out.next hb)
      replace R1 := Lib.hid (R1.out.next hb)
      replace P1 := Lib.hid (P1.out.next hb)
      replace T1 := Lib.hid (T1.out.next hb)
      replace HBL := Lib.hid (HBL.out.trans (hb.mono HBL.out.size))
      clear hb
      go_wp2
      go_ret
      exact ⟨rfl, HBL.out⟩
    · have hr := read_none e1 e2
      have hE : ¬ E = 0 := by rw [← HE.out, hr.1]; exact e1
      have s1 : (E == 0) = false := by rw [beq_eq_false_iff_ne]; exact hE
      have s2 : (E != 0) = true := by rw [bne_iff_ne]; exact hE
      clear hr hE e1 e2
      by_cases q0 : 1000 < n
      · have p0 : (1000 : Int) < (n : Int) := by omega
        go_enter Try.func6, Try.ntmps6
        go_wp2_with fail
        refine (pread_any b n HN.out hn2 E HE.out o HO.out p HP.out A c w B1.out).mono ?_
        rintro e w1 ⟨AR1, cR1, rfl, hs, hb⟩
        replace B1 := Lib.hid (B1.out.next hb)
        replace HBL := Lib.hid (HBL.out.trans (hb.mono HBL.out.size))
        have R1 := Lib.hid hs
        clear hb hs
        go_wp2_with fail
        refine (swiped_any w1).mono ?_
        rintro e w2 ⟨rfl, hb⟩
        replace B1 := Lib.hid (B1.out.next hb)
        replace R1 := Lib.hid (R1.out.next hb)
        replace HBL := Lib.hid (HBL.out.trans (hb.mono HBL.out.size))
        clear hb
        go_wp2
        go_ret
        exact ⟨rfl, HBL.out⟩
      have p0 : ¬ ((1000 : Int) < (n : Int)) := by omega
      go_enter Try.func6, Try.ntmps6
      go_wp2_with fail
      refine (pread_any b n HN.out hn2 E HE.out o HO.out p HP.out A c w B1.out).mono ?_
      rintro e w1 ⟨AR1, cR1, rfl, hs, hb⟩
      replace B1 := Lib.hid (B1.out.next hb)
      replace HBL := Lib.hid (HBL.out.trans (hb.mono HBL.out.size))
      have R1 := Lib.hid hs
      clear hb hs
      go_wp2_with fail
      refine (swiped_any w1).mono ?_
      rintro e w2 ⟨rfl, hb⟩
      replace B1 := Lib.hid (B1.out.next hb)
      replace R1 := Lib.hid (R1.out.next hb)
      replace HBL := Lib.hid (HBL.out.trans (hb.mono HBL.out.size))
      clear hb
      go_wp2
      go_ret
      exact ⟨rfl, HBL.out⟩
end Go.Proofs.Ytjlcaobffhihhaa
