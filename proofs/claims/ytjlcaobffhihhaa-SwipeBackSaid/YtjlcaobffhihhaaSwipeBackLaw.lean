/-
  Law SwipeBack walked: it answers true. Conditions: the slice reads as bytes.
-/
import Derived.Test.YtjlcaobffhihhaaSwiped
import Derived.Test.YtjlcaobffhihhaaTrackFacts
namespace Go.Proofs.Ytjlcaobffhihhaa
set_option linter.unusedVariables false
open Go.ChangeShapes Go.WideShapes Go.ChangeAt Go.RowKit

set_option maxRecDepth 100000 in
set_option maxHeartbeats 1600000 in
theorem back14_any (d : List Nat) (n : Nat) (hn : n = d.length) (A : Option Addr) (c : Nat) (w : World) (hA : Bs w w.heap.size d A c) : Calls Try.prog 5 #[.slice A n c] w fun e w' => e = .returned (.bool true) ∧ Below w.heap.size w w' := by
  have h1 := hA.len
  have h2 := hA.cap
  have hn3 : n ≤ 9223372036854775807 := by omega
  have HN := Lib.hid hn
  have B1 := Lib.hid hA
  have HBL := Lib.hid (Below.refl w.heap.size w)
  clear h1 h2 hn hA
  obtain ⟨E, hE⟩ : ∃ E, putE d = E := ⟨_, rfl⟩
  obtain ⟨p, hP⟩ : ∃ p, putL d = p := ⟨_, rfl⟩
  have HE := Lib.hid hE
  have HP := Lib.hid hP
  clear hE hP
  by_cases e1 : E = 0
  · subst e1
    have hx := get_put HE.out
    rw [HP.out] at hx
    have h77 := (putE_ok HE.out).1
    rw [← HN.out] at h77
    have p0 : ¬ ((1000 : Int) < (n : Int)) := by omega
    have HG1 := Lib.hid (show getE p = 0 by rw [getE, hx])
    have HG2 := Lib.hid (show getL p = d by rw [getL, hx])
    have HPL := Lib.hid (show p.length ≤ 1000 by rw [← HP.out, put_len HE.out]; have := (putE_ok HE.out).1; omega)
    have HLT := Lib.hid (show ∀ x ∈ p, x < 256 by rw [← HP.out]; exact putL_lt HE.out)
    have HTT := Lib.hid (turn_turn p HLT.out)
    have HTN := Lib.hid (show p.length = (turnL p).length by rw [turn_len])
    have HR := Lib.hid (read_first HG1.out)
    have HRL := Lib.hid (HR.out.2.2.trans HG2.out)
    obtain ⟨G, hG⟩ : ∃ G, getE (turnL p) = G := ⟨_, rfl⟩
    obtain ⟨g, hg⟩ : ∃ g, getL (turnL p) = g := ⟨_, rfl⟩
    obtain ⟨t, ht⟩ : ∃ t, turnL p = t := ⟨_, rfl⟩
    rw [ht] at HTN HTT hG hg
    have HGG := Lib.hid hG
    have Hgg := Lib.hid hg
    have HT := Lib.hid ht
    clear hx hG hg ht h77
    by_cases e2 : G = 0
    · subst e2
      have HR2 := Lib.hid (read_first HGG.out)
      have HRL2 := Lib.hid (HR2.out.2.2.trans Hgg.out)
      go_enter Try.func5, Try.ntmps5
      go_wp2_with fail
      refine (pput_any d n HN.out hn3 0 HE.out p HP.out A c w B1.out).mono ?_
      rintro e w1 ⟨AP1, cP1, rfl, hs, hb⟩
      replace B1 := Lib.hid (B1.out.next hb)
      replace HBL := Lib.hid (HBL.out.trans (hb.mono HBL.out.size))
      have P1 := Lib.hid hs
      clear hb hs
      go_wp2_with fail
      refine (pturn_any p p.length rfl (by have := HPL.out; omega) AP1 cP1 w1 P1.out).mono ?_
      rintro e w2 ⟨AT1, cT1, rfl, hs, hb⟩
      replace B1 := Lib.hid (B1.out.next hb)
      replace P1 := Lib.hid (P1.out.next hb)
      replace HBL := Lib.hid (HBL.out.trans (hb.mono HBL.out.size))
      have T1 := Lib.hid hs
      clear hb hs
      rw [HT.out] at T1
      go_wp2_with fail
      refine (pturn_any t p.length HTN.out (by have := HPL.out; omega) AT1 cT1 w2 T1.out).mono ?_
      rintro e w3 ⟨AT2, cT2, rfl, hs, hb⟩
      replace B1 := Lib.hid (B1.out.next hb)
      replace P1 := Lib.hid (P1.out.next hb)
      replace T1 := Lib.hid (T1.out.next hb)
      replace HBL := Lib.hid (HBL.out.trans (hb.mono HBL.out.size))
      have T2 := Lib.hid hs
      clear hb hs
      rw [HTT.out] at T2
      go_wp2_with fail
      refine (same_true p p.length p.length rfl rfl AT2 AP1 cT2 cP1 w3 T2.out P1.out).mono ?_
      rintro e w4 ⟨rfl, hb⟩
      replace B1 := Lib.hid (B1.out.next hb)
      replace P1 := Lib.hid (P1.out.next hb)
      replace T1 := Lib.hid (T1.out.next hb)
      replace T2 := Lib.hid (T2.out.next hb)
      replace HBL := Lib.hid (HBL.out.trans (hb.mono HBL.out.size))
      clear hb
      go_wp2_with fail
      refine (pread_any p p.length rfl (by have := HPL.out; omega) 0 HR.out.1 false HR.out.2.1 d HRL.out AP1 cP1 w4 P1.out).mono ?_
      rintro e w5 ⟨AR1, cR1, rfl, hs, hb⟩
      replace B1 := Lib.hid (B1.out.next hb)
      replace P1 := Lib.hid (P1.out.next hb)
      replace T1 := Lib.hid (T1.out.next hb)
      replace T2 := Lib.hid (T2.out.next hb)
      replace HBL := Lib.hid (HBL.out.trans (hb.mono HBL.out.size))
      have R1 := Lib.hid hs
      clear hb hs
      go_wp2_with fail
      refine (same_true d d.length n rfl HN.out AR1 A cR1 c w5 R1.out B1.out).mono ?_
      rintro e w6 ⟨rfl, hb⟩
      replace B1 := Lib.hid (B1.out.next hb)
      replace P1 := Lib.hid (P1.out.next hb)
      replace T1 := Lib.hid (T1.out.next hb)
      replace T2 := Lib.hid (T2.out.next hb)
      replace R1 := Lib.hid (R1.out.next hb)
      replace HBL := Lib.hid (HBL.out.trans (hb.mono HBL.out.size))
      clear hb
      go_wp2_with fail
      refine (pget_any t p.length HTN.out (by have := HPL.out; omega) 0 HGG.out g Hgg.out AT1 cT1 w6 T1.out).mono ?_
      rintro e w7 ⟨AG1, cG1, rfl, hs, hb⟩
      replace B1 := Lib.hid (B1.out.next hb)
      replace P1 := Lib.hid (P1.out.next hb)
      replace T1 := Lib.hid (T1.out.next hb)
      replace T2 := Lib.hid (T2.out.next hb)
      replace R1 := Lib.hid (R1.out.next hb)
      replace HBL := Lib.hid (HBL.out.trans (hb.mono HBL.out.size))
      have G1 := Lib.hid hs
      clear hb hs
      go_wp2_with fail
      refine (pread_any t p.length HTN.out (by have := HPL.out; omega) 0 HR2.out.1 false HR2.out.2.1 g HRL2.out AT1 cT1 w7 T1.out).mono ?_
      rintro e w8 ⟨AR2, cR2, rfl, hs, hb⟩
      replace B1 := Lib.hid (B1.out.next hb)
      replace P1 := Lib.hid (P1.out.next hb)
      replace T1 := Lib.hid (T1.out.next hb)
      replace T2 := Lib.hid (T2.out.next hb)
      replace R1 := Lib.hid (R1.out.next hb)
      replace G1 := Lib.hid (G1.out.next hb)
      replace HBL := Lib.hid (HBL.out.trans (hb.mono HBL.out.size))
      have R2 := Lib.hid hs
      clear hb hs
      go_wp2_with fail
      refine (swiped_any w8).mono ?_
      rintro e w9 ⟨rfl, hb⟩
      replace B1 := Lib.hid (B1.out.next hb)
      replace P1 := Lib.hid (P1.out.next hb)
      replace T1 := Lib.hid (T1.out.next hb)
      replace T2 := Lib.hid (T2.out.next hb)
      replace R1 := Lib.hid (R1.out.next hb)
      replace G1 := Lib.hid (G1.out.next hb)
      replace R2 := Lib.hid (R2.out.next hb)
      replace HBL := Lib.hid (HBL.out.trans (hb.mono HBL.out.size))
      clear hb
      go_wp2
      go_ret
      exact ⟨rfl, HBL.out⟩
    · have s3 : (G == 0) = false := by rw [beq_eq_false_iff_ne]; exact e2
      have s4 : (G != 0) = true := by rw [bne_iff_ne]; exact e2
      have hr := read_second (b := t) (by rw [HGG.out]; exact e2) (by rw [HTT.out]; exact HG1.out)
      have HR2 := Lib.hid hr
      have HRL2 := Lib.hid (show readL t = d by rw [hr.2.2, HTT.out]; exact HG2.out)
      clear hr
      go_enter Try.func5, Try.ntmps5
      go_wp2_with fail
      refine (pput_any d n HN.out hn3 0 HE.out p HP.out A c w B1.out).mono ?_
      rintro e w1 ⟨AP1, cP1, rfl, hs, hb⟩
      replace B1 := Lib.hid (B1.out.next hb)
      replace HBL := Lib.hid (HBL.out.trans (hb.mono HBL.out.size))
      have P1 := Lib.hid hs
      clear hb hs
      go_wp2_with fail
      refine (pturn_any p p.length rfl (by have := HPL.out; omega) AP1 cP1 w1 P1.out).mono ?_
      rintro e w2 ⟨AT1, cT1, rfl, hs, hb⟩
      replace B1 := Lib.hid (B1.out.next hb)
      replace P1 := Lib.hid (P1.out.next hb)
      replace HBL := Lib.hid (HBL.out.trans (hb.mono HBL.out.size))
      have T1 := Lib.hid hs
      clear hb hs
      rw [HT.out] at T1
      go_wp2_with fail
      refine (pturn_any t p.length HTN.out (by have := HPL.out; omega) AT1 cT1 w2 T1.out).mono ?_
      rintro e w3 ⟨AT2, cT2, rfl, hs, hb⟩
      replace B1 := Lib.hid (B1.out.next hb)
      replace P1 := Lib.hid (P1.out.next hb)
      replace T1 := Lib.hid (T1.out.next hb)
      replace HBL := Lib.hid (HBL.out.trans (hb.mono HBL.out.size))
      have T2 := Lib.hid hs
      clear hb hs
      rw [HTT.out] at T2
      go_wp2_with fail
      refine (same_true p p.length p.length rfl rfl AT2 AP1 cT2 cP1 w3 T2.out P1.out).mono ?_
      rintro e w4 ⟨rfl, hb⟩
      replace B1 := Lib.hid (B1.out.next hb)
      replace P1 := Lib.hid (P1.out.next hb)
      replace T1 := Lib.hid (T1.out.next hb)
      replace T2 := Lib.hid (T2.out.next hb)
      replace HBL := Lib.hid (HBL.out.trans (hb.mono HBL.out.size))
      clear hb
      go_wp2_with fail
      refine (pread_any p p.length rfl (by have := HPL.out; omega) 0 HR.out.1 false HR.out.2.1 d HRL.out AP1 cP1 w4 P1.out).mono ?_
      rintro e w5 ⟨AR1, cR1, rfl, hs, hb⟩
      replace B1 := Lib.hid (B1.out.next hb)
      replace P1 := Lib.hid (P1.out.next hb)
      replace T1 := Lib.hid (T1.out.next hb)
      replace T2 := Lib.hid (T2.out.next hb)
      replace HBL := Lib.hid (HBL.out.trans (hb.mono HBL.out.size))
      have R1 := Lib.hid hs
      clear hb hs
      go_wp2_with fail
      refine (same_true d d.length n rfl HN.out AR1 A cR1 c w5 R1.out B1.out).mono ?_
      rintro e w6 ⟨rfl, hb⟩
      replace B1 := Lib.hid (B1.out.next hb)
      replace P1 := Lib.hid (P1.out.next hb)
      replace T1 := Lib.hid (T1.out.next hb)
      replace T2 := Lib.hid (T2.out.next hb)
      replace R1 := Lib.hid (R1.out.next hb)
      replace HBL := Lib.hid (HBL.out.trans (hb.mono HBL.out.size))
      clear hb
      go_wp2_with fail
      refine (pget_any t p.length HTN.out (by have := HPL.out; omega) G HGG.out g Hgg.out AT1 cT1 w6 T1.out).mono ?_
      rintro e w7 ⟨AG1, cG1, rfl, hs, hb⟩
      replace B1 := Lib.hid (B1.out.next hb)
      replace P1 := Lib.hid (P1.out.next hb)
      replace T1 := Lib.hid (T1.out.next hb)
      replace T2 := Lib.hid (T2.out.next hb)
      replace R1 := Lib.hid (R1.out.next hb)
      replace HBL := Lib.hid (HBL.out.trans (hb.mono HBL.out.size))
      have G1 := Lib.hid hs
      clear hb hs
      go_wp2_with fail
      refine (pread_any t p.length HTN.out (by have := HPL.out; omega) 0 HR2.out.1 true HR2.out.2.1 d HRL2.out AT1 cT1 w7 T1.out).mono ?_
      rintro e w8 ⟨AR2, cR2, rfl, hs, hb⟩
      replace B1 := Lib.hid (B1.out.next hb)
      replace P1 := Lib.hid (P1.out.next hb)
      replace T1 := Lib.hid (T1.out.next hb)
      replace T2 := Lib.hid (T2.out.next hb)
      replace R1 := Lib.hid (R1.out.next hb)
      replace G1 := Lib.hid (G1.out.next hb)
      replace HBL := Lib.hid (HBL.out.trans (hb.mono HBL.out.size))
      have R2 := Lib.hid hs
      clear hb hs
      go_wp2_with fail
      refine (swiped_any w8).mono ?_
      rintro e w9 ⟨rfl, hb⟩
      replace B1 := Lib.hid (B1.out.next hb)
      replace P1 := Lib.hid (P1.out.next hb)
      replace T1 := Lib.hid (T1.out.next hb)
      replace T2 := Lib.hid (T2.out.next hb)
      replace R1 := Lib.hid (R1.out.next hb)
      replace G1 := Lib.hid (G1.out.next hb)
      replace R2 := Lib.hid (R2.out.next hb)
      replace HBL := Lib.hid (HBL.out.trans (hb.mono HBL.out.size))
      clear hb
      go_wp2_with fail
      refine (same_true d d.length n rfl HN.out AR2 A cR2 c w9 R2.out B1.out).mono ?_
      rintro e w10 ⟨rfl, hb⟩
      replace B1 := Lib.hid (B1.out.next hb)
      replace P1 := Lib.hid (P1.out.next hb)
      replace T1 := Lib.hid (T1.out.next hb)
      replace T2 := Lib.hid (T2.out.next hb)
      replace R1 := Lib.hid (R1.out.next hb)
      replace G1 := Lib.hid (G1.out.next hb)
      replace R2 := Lib.hid (R2.out.next hb)
      replace HBL := Lib.hid (HBL.out.trans (hb.mono HBL.out.size))
      clear hb
      go_wp2
      go_ret
      exact ⟨rfl, HBL.out⟩
  · have s1 : (E == 0) = false := by rw [beq_eq_false_iff_ne]; exact e1
    have s2 : (E != 0) = true := by rw [bne_iff_ne]; exact e1
    by_cases q0 : 1000 < n
    · have p0 : (1000 : Int) < (n : Int) := by omega
      go_enter Try.func5, Try.ntmps5
      go_wp2_with fail
      refine (pput_any d n HN.out hn3 E HE.out p HP.out A c w B1.out).mono ?_
      rintro e w1 ⟨AP1, cP1, rfl, hs, hb⟩
      replace B1 := Lib.hid (B1.out.next hb)
      replace HBL := Lib.hid (HBL.out.trans (hb.mono HBL.out.size))
      have P1 := Lib.hid hs
      clear hb hs
      go_wp2_with fail
      refine (swiped_any w1).mono ?_
      rintro e w2 ⟨rfl, hb⟩
      replace B1 := Lib.hid (B1.out.next hb)
      replace P1 := Lib.hid (P1.out.next hb)
      replace HBL := Lib.hid (HBL.out.trans (hb.mono HBL.out.size))
      clear hb
      go_wp2
      go_ret
      exact ⟨rfl, HBL.out⟩
    have p0 : ¬ ((1000 : Int) < (n : Int)) := by omega
    go_enter Try.func5, Try.ntmps5
    go_wp2_with fail
    refine (pput_any d n HN.out hn3 E HE.out p HP.out A c w B1.out).mono ?_
    rintro e w1 ⟨AP1, cP1, rfl, hs, hb⟩
    replace B1 := Lib.hid (B1.out.next hb)
    replace HBL := Lib.hid (HBL.out.trans (hb.mono HBL.out.size))
    have P1 := Lib.hid hs
    clear hb hs
    go_wp2_with fail
    refine (swiped_any w1).mono ?_
    rintro e w2 ⟨rfl, hb⟩
    replace B1 := Lib.hid (B1.out.next hb)
    replace P1 := Lib.hid (P1.out.next hb)
    replace HBL := Lib.hid (HBL.out.trans (hb.mono HBL.out.size))
    clear hb
    go_wp2
    go_ret
    exact ⟨rfl, HBL.out⟩
end Go.Proofs.Ytjlcaobffhihhaa
