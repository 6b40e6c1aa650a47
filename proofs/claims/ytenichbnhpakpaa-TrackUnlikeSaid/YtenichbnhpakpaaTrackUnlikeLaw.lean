/-
  Law TrackUnlike walked, out of the contracts: it answers true. Conditions: the slices read as bytes.
-/
import Derived.Test.YtenichbnhpakpaaTrackC
namespace Go.Proofs.Ytenichbnhpakpaa
set_option linter.unusedVariables false
open Go.ChangeShapes Go.WideShapes Go.ChangeAt Go.RowKit

theorem put_tells {d e : List Nat} (h1 : putE d = 0) (h2 : putE e = 0) : (putL d == putL e) = (d == e) := by
  by_cases h : d = e
  · subst h; simp
  · have h3 : ¬ putL d = putL e := fun e2 => h (put_inj h1 h2 e2)
    rw [show (d == e) = false by rw [beq_eq_false_iff_ne]; exact h, show (putL d == putL e) = false by rw [beq_eq_false_iff_ne]; exact h3]
set_option maxRecDepth 100000 in
set_option maxHeartbeats 1600000 in
theorem unlike11_any (C : TC) (d : List Nat) (n : Nat) (hn : n = d.length) (b : List Nat) (m : Nat) (hm : m = b.length) (A A2 : Option Addr) (c c2 : Nat) (w : World) (hA : Bs w w.heap.size d A c) (hB : Bs w w.heap.size b A2 c2) : Calls Try.prog 7 #[.slice A n c, .slice A2 m c2] w fun e w' => e = .returned (.bool true) ∧ Below w.heap.size w w' := by
  have h1 := hA.len
  have h2 := hA.cap
  have h3 := hB.len
  have h4 := hB.cap
  have hn3 : n ≤ 9223372036854775807 := by omega
  have hm3 : m ≤ 9223372036854775807 := by omega
  have HN := Lib.hid hn
  have HM := Lib.hid hm
  have D1 := Lib.hid hA
  have B1 := Lib.hid hB
  have HBL := Lib.hid (Below.refl w.heap.size w)
  clear h1 h2 h3 h4 hn hm hA hB
  by_cases q0 : 1000 < n
  · have p0 : (1000 : Int) < (n : Int) := by omega
    go_enter Try.func7, Try.ntmps7
    go_wp2
    go_ret
    exact ⟨rfl, Below.refl _ _⟩
  have p0 : ¬ ((1000 : Int) < (n : Int)) := by omega
  by_cases q1 : 1000 < m
  · have p1 : (1000 : Int) < (m : Int) := by omega
    go_enter Try.func7, Try.ntmps7
    go_wp2
    go_ret
    exact ⟨rfl, Below.refl _ _⟩
  have p1 : ¬ ((1000 : Int) < (m : Int)) := by omega
  obtain ⟨E, hE⟩ : ∃ E, putE d = E := ⟨_, rfl⟩
  obtain ⟨p, hP⟩ : ∃ p, putL d = p := ⟨_, rfl⟩
  obtain ⟨G, hG⟩ : ∃ G, putE b = G := ⟨_, rfl⟩
  obtain ⟨g, hg⟩ : ∃ g, putL b = g := ⟨_, rfl⟩
  have HE := Lib.hid hE
  have HP := Lib.hid hP
  have HG := Lib.hid hG
  have Hg := Lib.hid hg
  clear hE hP hG hg
  by_cases e1 : E = 0
  · subst e1
    by_cases e2 : G = 0
    · subst e2
      obtain ⟨t, ht⟩ : ∃ t, (d == b) = t := ⟨_, rfl⟩
      have HT2 := Lib.hid ht
      have HT1 := Lib.hid (show (p == g) = t by rw [← HP.out, ← Hg.out, put_tells HE.out HG.out, ht])
      have hr2 : p.length = (5 * n + 22) / 8 := by rw [← HP.out, put_len HE.out, HN.out]
      have r4 : (5 * (n : Int) + 22) / 8 = (p.length : Int) := by omega
      have HPW := Lib.hid (show p.length ≤ 1000 by omega)
      clear hr2
      clear ht
      go_enter Try.func7, Try.ntmps7
      go_wp2_with fail
      refine (C.put d n 0 p A c w HN.out (by omega) HE.out HP.out D1.out).mono ?_
      rintro e w1 ⟨AP1, cP1, rfl, hs, hb⟩
      replace D1 := Lib.hid (D1.out.next hb)
      replace B1 := Lib.hid (B1.out.next hb)
      replace HBL := Lib.hid (HBL.out.trans (hb.mono HBL.out.size))
      have P1 := Lib.hid hs
      clear hb hs
      go_wp2_with fail
      refine (C.put b m 0 g A2 c2 w1 HM.out (by omega) HG.out Hg.out B1.out).mono ?_
      rintro e w2 ⟨AP2, cP2, rfl, hs, hb⟩
      replace D1 := Lib.hid (D1.out.next hb)
      replace B1 := Lib.hid (B1.out.next hb)
      replace P1 := Lib.hid (P1.out.next hb)
      replace HBL := Lib.hid (HBL.out.trans (hb.mono HBL.out.size))
      have P2 := Lib.hid hs
      clear hb hs
      go_wp2_with fail
      refine (tracked_any C w2).mono ?_
      rintro e w3 ⟨rfl, hb⟩
      replace D1 := Lib.hid (D1.out.next hb)
      replace B1 := Lib.hid (B1.out.next hb)
      replace P1 := Lib.hid (P1.out.next hb)
      replace P2 := Lib.hid (P2.out.next hb)
      replace HBL := Lib.hid (HBL.out.trans (hb.mono HBL.out.size))
      clear hb
      go_wp2_with fail
      refine (same_told p g t HT1.out p.length g.length rfl rfl AP1 AP2 cP1 cP2 w3 P1.out P2.out).mono ?_
      rintro e w4 ⟨rfl, hb⟩
      replace D1 := Lib.hid (D1.out.next hb)
      replace B1 := Lib.hid (B1.out.next hb)
      replace P1 := Lib.hid (P1.out.next hb)
      replace P2 := Lib.hid (P2.out.next hb)
      replace HBL := Lib.hid (HBL.out.trans (hb.mono HBL.out.size))
      clear hb
      go_wp2_with fail
      refine (same_told d b t HT2.out n m HN.out HM.out A A2 c c2 w4 D1.out B1.out).mono ?_
      rintro e w5 ⟨rfl, hb⟩
      replace D1 := Lib.hid (D1.out.next hb)
      replace B1 := Lib.hid (B1.out.next hb)
      replace P1 := Lib.hid (P1.out.next hb)
      replace P2 := Lib.hid (P2.out.next hb)
      replace HBL := Lib.hid (HBL.out.trans (hb.mono HBL.out.size))
      clear hb
      go_wp2
      go_ret
      exact ⟨rfl, HBL.out⟩
    · have s3 : (G == 0) = false := by rw [beq_eq_false_iff_ne]; exact e2
      have s4 : (G != 0) = true := by rw [bne_iff_ne]; exact e2
      go_enter Try.func7, Try.ntmps7
      go_wp2_with fail
      refine (C.put d n 0 p A c w HN.out (by omega) HE.out HP.out D1.out).mono ?_
      rintro e w1 ⟨AP1, cP1, rfl, hs, hb⟩
      replace D1 := Lib.hid (D1.out.next hb)
      replace B1 := Lib.hid (B1.out.next hb)
      replace HBL := Lib.hid (HBL.out.trans (hb.mono HBL.out.size))
      have P1 := Lib.hid hs
      clear hb hs
      go_wp2_with fail
      refine (C.put b m G g A2 c2 w1 HM.out (by omega) HG.out Hg.out B1.out).mono ?_
      rintro e w2 ⟨AP2, cP2, rfl, hs, hb⟩
      replace D1 := Lib.hid (D1.out.next hb)
      replace B1 := Lib.hid (B1.out.next hb)
      replace P1 := Lib.hid (P1.out.next hb)
      replace HBL := Lib.hid (HBL.out.trans (hb.mono HBL.out.size))
      have P2 := Lib.hid hs
      clear hb hs
      go_wp2_with fail
      refine (tracked_any C w2).mono ?_
      rintro e w3 ⟨rfl, hb⟩
      replace D1 := Lib.hid (D1.out.next hb)
      replace B1 := Lib.hid (B1.out.next hb)
      replace P1 := Lib.hid (P1.out.next hb)
      replace P2 := Lib.hid (P2.out.next hb)
      replace HBL := Lib.hid (HBL.out.trans (hb.mono HBL.out.size))
      clear hb
      go_wp2
      go_ret
      exact ⟨rfl, HBL.out⟩
  · have s1 : (E == 0) = false := by rw [beq_eq_false_iff_ne]; exact e1
    have s2 : (E != 0) = true := by rw [bne_iff_ne]; exact e1
    go_enter Try.func7, Try.ntmps7
    go_wp2_with fail
    refine (C.put d n E p A c w HN.out (by omega) HE.out HP.out D1.out).mono ?_
    rintro e w1 ⟨AP1, cP1, rfl, hs, hb⟩
    replace D1 := Lib.hid (D1.out.next hb)
    replace B1 := Lib.hid (B1.out.next hb)
    replace HBL := Lib.hid (HBL.out.trans (hb.mono HBL.out.size))
    have P1 := Lib.hid hs
    clear hb hs
    go_wp2_with fail
    refine (C.put b m G g A2 c2 w1 HM.out (by omega) HG.out Hg.out B1.out).mono ?_
    rintro e w2 ⟨AP2, cP2, rfl, hs, hb⟩
    replace D1 := Lib.hid (D1.out.next hb)
    replace B1 := Lib.hid (B1.out.next hb)
    replace P1 := Lib.hid (P1.out.next hb)
    replace HBL := Lib.hid (HBL.out.trans (hb.mono HBL.out.size))
    have P2 := Lib.hid hs
    clear hb hs
    go_wp2_with fail
    refine (tracked_any C w2).mono ?_
    rintro e w3 ⟨rfl, hb⟩
    replace D1 := Lib.hid (D1.out.next hb)
    replace B1 := Lib.hid (B1.out.next hb)
    replace P1 := Lib.hid (P1.out.next hb)
    replace P2 := Lib.hid (P2.out.next hb)
    replace HBL := Lib.hid (HBL.out.trans (hb.mono HBL.out.size))
    clear hb
    go_wp2
    go_ret
    exact ⟨rfl, HBL.out⟩
end Go.Proofs.Ytenichbnhpakpaa
