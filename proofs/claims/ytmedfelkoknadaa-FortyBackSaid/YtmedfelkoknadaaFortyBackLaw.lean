/-
  Law FortyBack walked: it answers true. Conditions: the slices read as bytes.
-/
import Derived.Test.YtmedfelkoknadaaFortySigned
namespace Go.Proofs.Ytmedfelkoknadaa
set_option linter.unusedVariables false
open Go.ChangeShapes Go.WideShapes Go.ChangeAt Go.RowKit

set_option maxRecDepth 100000 in
set_option maxHeartbeats 1600000 in
theorem back16_any (b b' : List Nat) (n n' : Nat) (hn : n = b.length) (hn' : n' = b'.length) (A A' : Option Addr) (c c' : Nat) (w : World) (hA : Bs w w.heap.size b A c) (hA' : Bs w w.heap.size b' A' c') : Calls Try.prog 5 #[.slice A n c, .slice A' n' c'] w fun e w' => e = .returned (.bool true) ∧ Below w.heap.size w w' := by
  have h1 := hA.len
  have h2 := hA.cap
  have h3 := hA'.len
  have h4 := hA'.cap
  have hn3 : n ≤ 9223372036854775807 := by omega
  have hn4 : n' ≤ 9223372036854775807 := by omega
  have HN := Lib.hid hn
  have HN' := Lib.hid hn'
  have B1 := Lib.hid hA
  have B2 := Lib.hid hA'
  have HBL := Lib.hid (Below.refl w.heap.size w)
  clear h1 h2 h3 h4 hn hn' hA hA'
  by_cases q0 : 2000 < n
  · have p0 : (2000 : Int) < (n : Int) := by omega
    go_enter Try.func5, Try.ntmps5
    go_wp2
    go_ret
    exact ⟨rfl, Below.refl _ _⟩
  have p0 : ¬ ((2000 : Int) < (n : Int)) := by omega
  by_cases q1 : 3000 < n'
  · have p1 : (3000 : Int) < (n' : Int) := by omega
    go_enter Try.func5, Try.ntmps5
    go_wp2
    go_ret
    exact ⟨rfl, Below.refl _ _⟩
  have p1 : ¬ ((3000 : Int) < (n' : Int)) := by omega
  have hback := getX_putF B1.out.lt
  have hlen := putF_len b
  rw [← HN.out] at hlen
  obtain ⟨p, hp⟩ : ∃ p, putF b = p := ⟨_, rfl⟩
  rw [hp] at hback hlen
  have HP := Lib.hid hp
  have HG := Lib.hid hback
  obtain ⟨m, hm⟩ : ∃ m, p.length = m := ⟨_, rfl⟩
  rw [hm] at hlen
  have HM := Lib.hid hm
  obtain ⟨q, hq⟩ : ∃ q, q = n / 2 := ⟨_, rfl⟩
  obtain ⟨r, hr⟩ : ∃ r, r = n % 2 := ⟨_, rfl⟩
  have d1 : (n : Int).tdiv 2 = (q : Int) := by rw [Int.tdiv_eq_ediv_of_nonneg (by omega)]; omega
  have d2 : (n : Int).tmod 2 = (r : Int) := by rw [Int.tmod_eq_emod_of_nonneg (by omega)]; omega
  have v1 : IntKind.i64.wrap (q : Int) = (q : Int) := IntWalk.i64_in _ (by omega)
  have v2 : IntKind.i64.wrap (r : Int) = (r : Int) := IntWalk.i64_in _ (by omega)
  have v3 : IntKind.i64.wrap ((q : Int) * 3) = (q : Int) * 3 := IntWalk.i64_in _ (by omega)
  have v4 : IntKind.i64.wrap ((r : Int) * 2) = (r : Int) * 2 := IntWalk.i64_in _ (by omega)
  have v5 : IntKind.i64.wrap ((q : Int) * 3 + (r : Int) * 2) = (m : Int) := by rw [IntWalk.i64_in _ (by omega)]; omega
  have hm4 : m ≤ 4000 := by omega
  have HNL := Lib.hid (show n = b.length from HN.out)
  clear hback hlen hp hm hq hr
  obtain ⟨E, d, hE⟩ : ∃ e d, getX b' = (e, d) := ⟨_, _, rfl⟩
  have HE := Lib.hid hE
  clear hE
  by_cases e1 : E = 0
  · subst e1
    have hf := putF_getX HE.out
    have hdl := getX_len HE.out
    rw [← HN'.out] at hdl
    have HF := Lib.hid hf.1
    clear hf
    go_enter Try.func5, Try.ntmps5
    go_wp2_with fail
    refine (pput_forty b n HN.out (by omega) p HP.out A c w B1.out).mono ?_
    rintro e w1 ⟨AP1, cP1, rfl, hs, hb⟩
    replace B1 := Lib.hid (B1.out.next hb)
    replace B2 := Lib.hid (B2.out.next hb)
    replace HBL := Lib.hid (HBL.out.trans (hb.mono HBL.out.size))
    have P1 := Lib.hid hs
    clear hb hs
    rw [HM.out]
    go_wp2_with fail
    refine (pget_forty p m HM.out.symm hm4 0 b HG.out AP1 cP1 w1 P1.out).mono ?_
    rintro e w2 ⟨AG1, cG1, rfl, hs, hb⟩
    replace B1 := Lib.hid (B1.out.next hb)
    replace B2 := Lib.hid (B2.out.next hb)
    replace P1 := Lib.hid (P1.out.next hb)
    replace HBL := Lib.hid (HBL.out.trans (hb.mono HBL.out.size))
    have G1 := Lib.hid hs
    clear hb hs
    go_wp2_with fail
    refine (same_true b n b.length HN.out rfl A AG1 c cG1 w2 B1.out G1.out).mono ?_
    rintro e w3 ⟨rfl, hb⟩
    replace B1 := Lib.hid (B1.out.next hb)
    replace B2 := Lib.hid (B2.out.next hb)
    replace P1 := Lib.hid (P1.out.next hb)
    replace G1 := Lib.hid (G1.out.next hb)
    replace HBL := Lib.hid (HBL.out.trans (hb.mono HBL.out.size))
    clear hb
    go_wp2_with fail
    refine (pget_forty b' n' HN'.out (by omega) 0 d HE.out A' c' w3 B2.out).mono ?_
    rintro e w4 ⟨AG2, cG2, rfl, hs, hb⟩
    replace B1 := Lib.hid (B1.out.next hb)
    replace B2 := Lib.hid (B2.out.next hb)
    replace P1 := Lib.hid (P1.out.next hb)
    replace G1 := Lib.hid (G1.out.next hb)
    replace HBL := Lib.hid (HBL.out.trans (hb.mono HBL.out.size))
    have G2 := Lib.hid hs
    clear hb hs
    go_wp2_with fail
    refine (signed_any w4).mono ?_
    rintro e w5 ⟨rfl, hb⟩
    replace B1 := Lib.hid (B1.out.next hb)
    replace B2 := Lib.hid (B2.out.next hb)
    replace P1 := Lib.hid (P1.out.next hb)
    replace G1 := Lib.hid (G1.out.next hb)
    replace G2 := Lib.hid (G2.out.next hb)
    replace HBL := Lib.hid (HBL.out.trans (hb.mono HBL.out.size))
    clear hb
    go_wp2_with fail
    refine (pput_forty d d.length rfl (by omega) b' HF.out AG2 cG2 w5 G2.out).mono ?_
    rintro e w6 ⟨AP2, cP2, rfl, hs, hb⟩
    replace B1 := Lib.hid (B1.out.next hb)
    replace B2 := Lib.hid (B2.out.next hb)
    replace P1 := Lib.hid (P1.out.next hb)
    replace G1 := Lib.hid (G1.out.next hb)
    replace G2 := Lib.hid (G2.out.next hb)
    replace HBL := Lib.hid (HBL.out.trans (hb.mono HBL.out.size))
    have P2 := Lib.hid hs
    clear hb hs
    go_wp2_with fail
    refine (same_true b' b'.length n' rfl HN'.out AP2 A' cP2 c' w6 P2.out B2.out).mono ?_
    rintro e w7 ⟨rfl, hb⟩
    replace B1 := Lib.hid (B1.out.next hb)
    replace B2 := Lib.hid (B2.out.next hb)
    replace P1 := Lib.hid (P1.out.next hb)
    replace G1 := Lib.hid (G1.out.next hb)
    replace G2 := Lib.hid (G2.out.next hb)
    replace P2 := Lib.hid (P2.out.next hb)
    replace HBL := Lib.hid (HBL.out.trans (hb.mono HBL.out.size))
    clear hb
    go_wp2
    go_ret
    exact ⟨rfl, HBL.out⟩
  · have hd := getX_bad HE.out e1
    subst hd
    have s1 : ((E : Int) == 0) = false := by rw [beq_eq_false_iff_ne]; omega
    have s2 : ((E : Int) != 0) = true := by rw [bne_iff_ne]; omega
    have s3 : (E == 0) = false := by rw [beq_eq_false_iff_ne]; exact e1
    have s4 : (E != 0) = true := by rw [bne_iff_ne]; exact e1
    go_enter Try.func5, Try.ntmps5
    go_wp2_with fail
    refine (pput_forty b n HN.out (by omega) p HP.out A c w B1.out).mono ?_
    rintro e w1 ⟨AP1, cP1, rfl, hs, hb⟩
    replace B1 := Lib.hid (B1.out.next hb)
    replace B2 := Lib.hid (B2.out.next hb)
    replace HBL := Lib.hid (HBL.out.trans (hb.mono HBL.out.size))
    have P1 := Lib.hid hs
    clear hb hs
    rw [HM.out]
    go_wp2_with fail
    refine (pget_forty p m HM.out.symm hm4 0 b HG.out AP1 cP1 w1 P1.out).mono ?_
    rintro e w2 ⟨AG1, cG1, rfl, hs, hb⟩
    replace B1 := Lib.hid (B1.out.next hb)
    replace B2 := Lib.hid (B2.out.next hb)
    replace P1 := Lib.hid (P1.out.next hb)
    replace HBL := Lib.hid (HBL.out.trans (hb.mono HBL.out.size))
    have G1 := Lib.hid hs
    clear hb hs
    go_wp2_with fail
    refine (same_true b n b.length HN.out rfl A AG1 c cG1 w2 B1.out G1.out).mono ?_
    rintro e w3 ⟨rfl, hb⟩
    replace B1 := Lib.hid (B1.out.next hb)
    replace B2 := Lib.hid (B2.out.next hb)
    replace P1 := Lib.hid (P1.out.next hb)
    replace G1 := Lib.hid (G1.out.next hb)
    replace HBL := Lib.hid (HBL.out.trans (hb.mono HBL.out.size))
    clear hb
    go_wp2_with fail
    refine (pget_forty b' n' HN'.out (by omega) E [] HE.out A' c' w3 B2.out).mono ?_
    rintro e w4 ⟨AG2, cG2, rfl, hs, hb⟩
    replace B1 := Lib.hid (B1.out.next hb)
    replace B2 := Lib.hid (B2.out.next hb)
    replace P1 := Lib.hid (P1.out.next hb)
    replace G1 := Lib.hid (G1.out.next hb)
    replace HBL := Lib.hid (HBL.out.trans (hb.mono HBL.out.size))
    have G2 := Lib.hid hs
    clear hb hs
    go_wp2_with fail
    refine (signed_any w4).mono ?_
    rintro e w5 ⟨rfl, hb⟩
    replace B1 := Lib.hid (B1.out.next hb)
    replace B2 := Lib.hid (B2.out.next hb)
    replace P1 := Lib.hid (P1.out.next hb)
    replace G1 := Lib.hid (G1.out.next hb)
    replace G2 := Lib.hid (G2.out.next hb)
    replace HBL := Lib.hid (HBL.out.trans (hb.mono HBL.out.size))
    clear hb
    go_wp2
    go_ret
    exact ⟨rfl, HBL.out⟩
end Go.Proofs.Ytmedfelkoknadaa
