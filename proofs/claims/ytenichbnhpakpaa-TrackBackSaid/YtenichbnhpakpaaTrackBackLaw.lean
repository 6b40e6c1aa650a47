/-
  Law TrackBack walked, out of the contracts: it answers true. Conditions: the slices read as bytes.
-/
import Derived.Test.YtenichbnhpakpaaTrackC
namespace Go.Proofs.Ytenichbnhpakpaa
set_option linter.unusedVariables false
open Go.ChangeShapes Go.WideShapes Go.ChangeAt Go.RowKit

theorem scan_ne {l : List Bool} {e : Int} : ∀ (f i : Nat) (out : List Nat), scanL l f i out = .error e → e ≠ 0 := by
  intro f
  induction f with
  | zero => intro i out h; cases h; decide
  | succ f ih =>
    intro i out h
    rw [scanL] at h
    split at h
    · cases h; decide
    · split at h
      · cases h; decide
      · split at h
        · cases h; decide
        · split at h
          · cases h
          · exact ih _ _ h
theorem get_ne {b : List Nat} {e : Int} (h : getX b = .error e) : e ≠ 0 := by
  rw [getX] at h
  split at h
  · cases h; decide
  · split at h
    · cases h; decide
    · split at h
      · rename_i e' hs
        cases h
        exact scan_ne _ _ _ hs
      · rw [lastL] at h
        split at h
        · cases h; decide
        · split at h
          · cases h; decide
          · split at h
            · cases h; decide
            · split at h
              · cases h; decide
              · split at h
                · cases h; decide
                · cases h
theorem get_zero {b : List Nat} (h : getE b = 0) : getX b = .ok (getL b) := by
  unfold getE getL at *
  cases hx : getX b with
  | error e => rw [hx] at h; exact absurd h (get_ne hx)
  | ok d => rfl
theorem get_empty {b : List Nat} (h : ¬ getE b = 0) : getL b = [] := by
  unfold getE getL at *
  cases hx : getX b with
  | error e => rfl
  | ok d => rw [hx] at h; exact absurd rfl h
set_option maxRecDepth 100000 in
set_option maxHeartbeats 1600000 in
theorem back11_any (C : TC) (d : List Nat) (n : Nat) (hn : n = d.length) (b : List Nat) (m : Nat) (hm : m = b.length) (A A2 : Option Addr) (c c2 : Nat) (w : World) (hA : Bs w w.heap.size d A c) (hB : Bs w w.heap.size b A2 c2) : Calls Try.prog 6 #[.slice A n c, .slice A2 m c2] w fun e w' => e = .returned (.bool true) ∧ Below w.heap.size w w' := by
  have h1 := hA.len
  have h2 := hA.cap
  have h3 := hB.len
  have h4 := hB.cap
  have hn3 : n ≤ 9223372036854775807 := by omega
  have hm3 : m ≤ 9223372036854775807 := by omega
  have HN := Lib.hid hn
  have HM := Lib.hid hm
  have D1 := Lib.hid hA
  have B1 := Lib.hid hB
  have HBL := Lib.hid (Below.refl w.heap.size w)
  clear h1 h2 h3 h4 hn hm hA hB
  by_cases q0 : 1000 < n
  · have p0 : (1000 : Int) < (n : Int) := by omega
    go_enter Try.func6, Try.ntmps6
    go_wp2
    go_ret
    exact ⟨rfl, Below.refl _ _⟩
  have p0 : ¬ ((1000 : Int) < (n : Int)) := by omega
  by_cases q1 : 1000 < m
  · have p1 : (1000 : Int) < (m : Int) := by omega
    go_enter Try.func6, Try.ntmps6
    go_wp2
    go_ret
    exact ⟨rfl, Below.refl _ _⟩
  have p1 : ¬ ((1000 : Int) < (m : Int)) := by omega
  obtain ⟨E, hE⟩ : ∃ E, putE d = E := ⟨_, rfl⟩
  obtain ⟨p, hP⟩ : ∃ p, putL d = p := ⟨_, rfl⟩
  obtain ⟨G, hG⟩ : ∃ G, getE b = G := ⟨_, rfl⟩
  obtain ⟨g, hg⟩ : ∃ g, getL b = g := ⟨_, rfl⟩
  have HE := Lib.hid hE
  have HP := Lib.hid hP
  have HG := Lib.hid hG
  have Hg := Lib.hid hg
  clear hE hP hG hg
  by_cases e1 : E = 0
  · subst e1
    have hx := get_put HE.out
    rw [HP.out] at hx
    have HG1 := Lib.hid (show getE p = 0 by rw [getE, hx])
    have HG2 := Lib.hid (show getL p = d by rw [getL, hx])
    have HPL := Lib.hid (show p.length ≤ 1000 by rw [← HP.out, put_len HE.out]; have := (putE_ok HE.out).1; omega)
    clear hx
    by_cases e2 : G = 0
    · subst e2
      have hx := put_get (get_zero HG.out)
      rw [Hg.out] at hx
      have HQ := Lib.hid hx
      have HGL := Lib.hid (show g.length ≤ 1000 by have := (putE_ok hx.1).1; omega)
      clear hx
      go_enter Try.func6, Try.ntmps6
      go_wp2_with fail
      refine (C.put d n 0 p A c w HN.out (by omega) HE.out HP.out D1.out).mono ?_
      rintro e w1 ⟨AP1, cP1, rfl, hs, hb⟩
      replace D1 := Lib.hid (D1.out.next hb)
      replace B1 := Lib.hid (B1.out.next hb)
      replace HBL := Lib.hid (HBL.out.trans (hb.mono HBL.out.size))
      have P1 := Lib.hid hs
      clear hb hs
      go_wp2_with fail
      refine (C.get p p.length 0 d AP1 cP1 w1 rfl HPL.out HG1.out HG2.out P1.out).mono ?_
      rintro e w2 ⟨AG1, cG1, rfl, hs, hb⟩
      replace D1 := Lib.hid (D1.out.next hb)
      replace B1 := Lib.hid (B1.out.next hb)
      replace P1 := Lib.hid (P1.out.next hb)
      replace HBL := Lib.hid (HBL.out.trans (hb.mono HBL.out.size))
      have G1 := Lib.hid hs
      clear hb hs
      go_wp2_with fail
      refine (same_true d d.length n rfl HN.out AG1 A cG1 c w2 G1.out D1.out).mono ?_
      rintro e w3 ⟨rfl, hb⟩
      replace D1 := Lib.hid (D1.out.next hb)
      replace B1 := Lib.hid (B1.out.next hb)
      replace P1 := Lib.hid (P1.out.next hb)
      replace G1 := Lib.hid (G1.out.next hb)
      replace HBL := Lib.hid (HBL.out.trans (hb.mono HBL.out.size))
      clear hb
      go_wp2_with fail
      refine (C.get b m 0 g A2 c2 w3 HM.out (by omega) HG.out Hg.out B1.out).mono ?_
      rintro e w4 ⟨AG2, cG2, rfl, hs, hb⟩
      replace D1 := Lib.hid (D1.out.next hb)
      replace B1 := Lib.hid (B1.out.next hb)
      replace P1 := Lib.hid (P1.out.next hb)
      replace G1 := Lib.hid (G1.out.next hb)
      replace HBL := Lib.hid (HBL.out.trans (hb.mono HBL.out.size))
      have G2 := Lib.hid hs
      clear hb hs
      go_wp2_with fail
      refine (C.put g g.length 0 b AG2 cG2 w4 rfl HGL.out HQ.out.1 HQ.out.2 G2.out).mono ?_
      rintro e w5 ⟨AP2, cP2, rfl, hs, hb⟩
      replace D1 := Lib.hid (D1.out.next hb)
      replace B1 := Lib.hid (B1.out.next hb)
      replace P1 := Lib.hid (P1.out.next hb)
      replace G1 := Lib.hid (G1.out.next hb)
      replace G2 := Lib.hid (G2.out.next hb)
      replace HBL := Lib.hid (HBL.out.trans (hb.mono HBL.out.size))
      have P2 := Lib.hid hs
      clear hb hs
      go_wp2_with fail
      refine (tracked_any C w5).mono ?_
      rintro e w6 ⟨rfl, hb⟩
      replace D1 := Lib.hid (D1.out.next hb)
      replace B1 := Lib.hid (B1.out.next hb)
      replace P1 := Lib.hid (P1.out.next hb)
      replace G1 := Lib.hid (G1.out.next hb)
      replace G2 := Lib.hid (G2.out.next hb)
      replace P2 := Lib.hid (P2.out.next hb)
      replace HBL := Lib.hid (HBL.out.trans (hb.mono HBL.out.size))
      clear hb
      go_wp2_with fail
      refine (same_true b b.length m rfl HM.out AP2 A2 cP2 c2 w6 P2.out B1.out).mono ?_
      rintro e w7 ⟨rfl, hb⟩
      replace D1 := Lib.hid (D1.out.next hb)
      replace B1 := Lib.hid (B1.out.next hb)
      replace P1 := Lib.hid (P1.out.next hb)
      replace G1 := Lib.hid (G1.out.next hb)
      replace G2 := Lib.hid (G2.out.next hb)
      replace P2 := Lib.hid (P2.out.next hb)
      replace HBL := Lib.hid (HBL.out.trans (hb.mono HBL.out.size))
      clear hb
      go_wp2
      go_ret
      exact ⟨rfl, HBL.out⟩
    · have s3 : (G == 0) = false := by rw [beq_eq_false_iff_ne]; exact e2
      have s4 : (G != 0) = true := by rw [bne_iff_ne]; exact e2
      have hx := get_empty (b := b) (by rw [HG.out]; exact e2)
      have hz : g = [] := Hg.out.symm.trans hx
      subst hz
      clear hx
      go_enter Try.func6, Try.ntmps6
      go_wp2_with fail
      refine (C.put d n 0 p A c w HN.out (by omega) HE.out HP.out D1.out).mono ?_
      rintro e w1 ⟨AP1, cP1, rfl, hs, hb⟩
      replace D1 := Lib.hid (D1.out.next hb)
      replace B1 := Lib.hid (B1.out.next hb)
      replace HBL := Lib.hid (HBL.out.trans (hb.mono HBL.out.size))
      have P1 := Lib.hid hs
      clear hb hs
      go_wp2_with fail
      refine (C.get p p.length 0 d AP1 cP1 w1 rfl HPL.out HG1.out HG2.out P1.out).mono ?_
      rintro e w2 ⟨AG1, cG1, rfl, hs, hb⟩
      replace D1 := Lib.hid (D1.out.next hb)
      replace B1 := Lib.hid (B1.out.next hb)
      replace P1 := Lib.hid (P1.out.next hb)
      replace HBL := Lib.hid (HBL.out.trans (hb.mono HBL.out.size))
      have G1 := Lib.hid hs
      clear hb hs
      go_wp2_with fail
      refine (same_true d d.length n rfl HN.out AG1 A cG1 c w2 G1.out D1.out).mono ?_
      rintro e w3 ⟨rfl, hb⟩
      replace D1 := Lib.hid (D1.out.next hb)
      replace B1 := Lib.hid (B1.out.next hb)
      replace P1 := Lib.hid (P1.out.next hb)
      replace G1 := Lib.hid (G1.out.next hb)
      replace HBL := Lib.hid (HBL.out.trans (hb.mono HBL.out.size))
      clear hb
      go_wp2_with fail
      refine (C.get b m G [] A2 c2 w3 HM.out (by omega) HG.out Hg.out B1.out).mono ?_
      rintro e w4 ⟨AG2, cG2, rfl, hs, hb⟩
      replace D1 := Lib.hid (D1.out.next hb)
      replace B1 := Lib.hid (B1.out.next hb)
      replace P1 := Lib.hid (P1.out.next hb)
      replace G1 := Lib.hid (G1.out.next hb)
      replace HBL := Lib.hid (HBL.out.trans (hb.mono HBL.out.size))
      have G2 := Lib.hid hs
      clear hb hs
      go_wp2_with fail
      refine (tracked_any C w4).mono ?_
      rintro e w5 ⟨rfl, hb⟩
      replace D1 := Lib.hid (D1.out.next hb)
      replace B1 := Lib.hid (B1.out.next hb)
      replace P1 := Lib.hid (P1.out.next hb)
      replace G1 := Lib.hid (G1.out.next hb)
      replace G2 := Lib.hid (G2.out.next hb)
      replace HBL := Lib.hid (HBL.out.trans (hb.mono HBL.out.size))
      clear hb
      go_wp2
      go_ret
      exact ⟨rfl, HBL.out⟩
  · have s1 : (E == 0) = false := by rw [beq_eq_false_iff_ne]; exact e1
    have s2 : (E != 0) = true := by rw [bne_iff_ne]; exact e1
    by_cases e2 : G = 0
    · subst e2
      have hx := put_get (get_zero HG.out)
      rw [Hg.out] at hx
      have HQ := Lib.hid hx
      have HGL := Lib.hid (show g.length ≤ 1000 by have := (putE_ok hx.1).1; omega)
      clear hx
      go_enter Try.func6, Try.ntmps6
      go_wp2_with fail
      refine (C.put d n E p A c w HN.out (by omega) HE.out HP.out D1.out).mono ?_
      rintro e w1 ⟨AP1, cP1, rfl, hs, hb⟩
      replace D1 := Lib.hid (D1.out.next hb)
      replace B1 := Lib.hid (B1.out.next hb)
      replace HBL := Lib.hid (HBL.out.trans (hb.mono HBL.out.size))
      have P1 := Lib.hid hs
      clear hb hs
      go_wp2_with fail
      refine (C.get b m 0 g A2 c2 w1 HM.out (by omega) HG.out Hg.out B1.out).mono ?_
      rintro e w2 ⟨AG2, cG2, rfl, hs, hb⟩
      replace D1 := Lib.hid (D1.out.next hb)
      replace B1 := Lib.hid (B1.out.next hb)
      replace P1 := Lib.hid (P1.out.next hb)
      replace HBL := Lib.hid (HBL.out.trans (hb.mono HBL.out.size))
      have G2 := Lib.hid hs
      clear hb hs
      go_wp2_with fail
      refine (C.put g g.length 0 b AG2 cG2 w2 rfl HGL.out HQ.out.1 HQ.out.2 G2.out).mono ?_
      rintro e w3 ⟨AP2, cP2, rfl, hs, hb⟩
      replace D1 := Lib.hid (D1.out.next hb)
      replace B1 := Lib.hid (B1.out.next hb)
      replace P1 := Lib.hid (P1.out.next hb)
      replace G2 := Lib.hid (G2.out.next hb)
      replace HBL := Lib.hid (HBL.out.trans (hb.mono HBL.out.size))
      have P2 := Lib.hid hs
      clear hb hs
      go_wp2_with fail
      refine (tracked_any C w3).mono ?_
      rintro e w4 ⟨rfl, hb⟩
      replace D1 := Lib.hid (D1.out.next hb)
      replace B1 := Lib.hid (B1.out.next hb)
      replace P1 := Lib.hid (P1.out.next hb)
      replace G2 := Lib.hid (G2.out.next hb)
      replace P2 := Lib.hid (P2.out.next hb)
      replace HBL := Lib.hid (HBL.out.trans (hb.mono HBL.out.size))
      clear hb
      go_wp2_with fail
      refine (same_true b b.length m rfl HM.out AP2 A2 cP2 c2 w4 P2.out B1.out).mono ?_
      rintro e w5 ⟨rfl, hb⟩
      replace D1 := Lib.hid (D1.out.next hb)
      replace B1 := Lib.hid (B1.out.next hb)
      replace P1 := Lib.hid (P1.out.next hb)
      replace G2 := Lib.hid (G2.out.next hb)
      replace P2 := Lib.hid (P2.out.next hb)
      replace HBL := Lib.hid (HBL.out.trans (hb.mono HBL.out.size))
      clear hb
      go_wp2
      go_ret
      exact ⟨rfl, HBL.out⟩
    · have s3 : (G == 0) = false := by rw [beq_eq_false_iff_ne]; exact e2
      have s4 : (G != 0) = true := by rw [bne_iff_ne]; exact e2
      have hx := get_empty (b := b) (by rw [HG.out]; exact e2)
      have hz : g = [] := Hg.out.symm.trans hx
      subst hz
      clear hx
      go_enter Try.func6, Try.ntmps6
      go_wp2_with fail
      refine (C.put d n E p A c w HN.out (by omega) HE.out HP.out D1.out).mono ?_
      rintro e w1 ⟨AP1, cP1, rfl, hs, hb⟩
      replace D1 := Lib.hid (D1.out.next hb)
      replace B1 := Lib.hid (B1.out.next hb)
      replace HBL := Lib.hid (HBL.out.trans (hb.mono HBL.out.size))
      have P1 := Lib.hid hs
      clear hb hs
      go_wp2_with fail
      refine (C.get b m G [] A2 c2 w1 HM.out (by omega) HG.out Hg.out B1.out).mono ?_
      rintro e w2 ⟨AG2, cG2, rfl, hs, hb⟩
      replace D1 := Lib.hid (D1.out.next hb)
      replace B1 := Lib.hid (B1.out.next hb)
      replace P1 := Lib.hid (P1.out.next hb)
      replace HBL := Lib.hid (HBL.out.trans (hb.mono HBL.out.size))
      have G2 := Lib.hid hs
      clear hb hs
      go_wp2_with fail
      refine (tracked_any C w2).mono ?_
      rintro e w3 ⟨rfl, hb⟩
      replace D1 := Lib.hid (D1.out.next hb)
      replace B1 := Lib.hid (B1.out.next hb)
      replace P1 := Lib.hid (P1.out.next hb)
      replace G2 := Lib.hid (G2.out.next hb)
      replace HBL := Lib.hid (HBL.out.trans (hb.mono HBL.out.size))
      clear hb
      go_wp2
      go_ret
      exact ⟨rfl, HBL.out⟩
end Go.Proofs.Ytenichbnhpakpaa
