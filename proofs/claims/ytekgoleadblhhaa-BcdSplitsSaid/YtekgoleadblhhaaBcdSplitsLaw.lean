/-
  Law BcdSplits walked: it answers true. Conditions: the slices read as ints and bytes.
-/
import Derived.Test.YtekgoleadblhhaaCoded
namespace Go.Proofs.Ytekgoleadblhhaa
set_option linter.unusedVariables false
open Go.ChangeShapes Go.WideShapes Go.ChangeAt Go.RowKit

theorem joinR_in64 : ∀ (vs ws : List Int) (o : List Nat), (∀ v ∈ vs, v = v) → (joinR vs ws o).1 = 0 → ∀ v ∈ vs, In64 v := by
  intro vs
  induction vs with
  | nil => intro ws o _ _ v hv; cases hv
  | cons x r ih =>
    intro ws o _ h v hv
    rw [joinR] at h
    by_cases h0 : putE x (ws.headD 0) = 0
    · rw [if_pos h0] at h
      rcases List.mem_cons.1 hv with rfl | hv
      · obtain ⟨N, W, rfl, _, h18, hlt, _⟩ := put_zero h0
        have := pow18 h18
        unfold In64; omega
      · exact ih _ _ (fun _ _ => rfl) h v hv
    · rw [if_neg h0] at h
      exact absurd h h0
theorem join_in64 {vs ws : List Int} {p : List Nat} (h : joinX vs ws = (0, p)) : ∀ v ∈ vs, In64 v := by
  rw [joinX] at h
  split at h
  · exact absurd (Prod.mk.inj h).1 (by decide)
  · exact joinR_in64 vs ws [] (fun _ _ => rfl) (by rw [h])
set_option maxRecDepth 100000 in
set_option maxHeartbeats 1600000 in
theorem splits12_any (vs ws : List Int) (hv : ∀ v ∈ vs, In64 v) (l : List Nat) (a b m : Nat) (ha : a = vs.length) (hb : b = ws.length) (hm : m = l.length) (A B C : Option Addr) (c c1 c2 : Nat) (w : World) (hA : Zs w w.heap.size vs A c) (hB : Zs w w.heap.size ws B c1) (hC : Bs w w.heap.size l C c2) : Calls Try.prog 6 #[.slice A a c, .slice B b c1, .slice C m c2] w fun e w' => e = .returned (.bool true) ∧ Below w.heap.size w w' := by
  have h0a := hA.len
  have h0b := hA.cap
  have h063 : a ≤ 9223372036854775807 := by omega
  clear h0a h0b
  have HA := Lib.hid ha
  have LA := Lib.hid hA
  clear ha hA
  have h1a := hB.len
  have h1b := hB.cap
  have h163 : b ≤ 9223372036854775807 := by omega
  clear h1a h1b
  have HB := Lib.hid hb
  have LB := Lib.hid hB
  clear hb hB
  have h2a := hC.len
  have h2b := hC.cap
  have h263 : m ≤ 9223372036854775807 := by omega
  clear h2a h2b
  have HC := Lib.hid hm
  have LC := Lib.hid hC
  clear hm hC
  have HV := Lib.hid hv
  clear hv
  have HBL := Lib.hid (Below.refl w.heap.size w)
  by_cases q0 : 100 < a
  · have p0 : (100 : Int) < (a : Int) := by omega
    go_enter Try.func6, Try.ntmps6
    go_wp2
    go_ret
    exact ⟨rfl, HBL.out⟩
  have p0 : ¬ ((100 : Int) < (a : Int)) := by omega
  by_cases q1 : 100 < b
  · have p1 : (100 : Int) < (b : Int) := by omega
    go_enter Try.func6, Try.ntmps6
    go_wp2
    go_ret
    exact ⟨rfl, HBL.out⟩
  have p1 : ¬ ((100 : Int) < (b : Int)) := by omega
  by_cases q2 : 1000 < m
  · have p2 : (1000 : Int) < (m : Int) := by omega
    go_enter Try.func6, Try.ntmps6
    go_wp2
    go_ret
    exact ⟨rfl, HBL.out⟩
  have p2 : ¬ ((1000 : Int) < (m : Int)) := by omega
  obtain ⟨E, p, hE⟩ : ∃ E p, joinX vs ws = (E, p) := ⟨_, _, rfl⟩
  obtain ⟨G, v, hG⟩ : ∃ G v, splitX l ws = (G, v) := ⟨_, _, rfl⟩
  have HE := Lib.hid hE
  have HG := Lib.hid hG
  clear hE hG
  by_cases e0 : E = 0
  · subst e0
    have hs : splitX p ws = (0, vs) := by have := join_split (vs := vs) (ws := ws) (by rw [HE.out]); rw [HE.out] at this; exact this
    have HS := Lib.hid hs
    clear hs
    go_enter Try.func6, Try.ntmps6
    go_wp2_with fail
    refine (pjoin_any vs ws a b HA.out HB.out 0 p HE.out A B c c1 w LA.out LB.out HV.out).mono ?_
    rintro e w1 ⟨AP1, cP1, rfl, hs, hb⟩
    replace LA := Lib.hid (LA.out.next hb)
    replace LB := Lib.hid (LB.out.next hb)
    replace LC := Lib.hid (LC.out.next hb)
    replace HBL := Lib.hid (HBL.out.trans (hb.mono HBL.out.size))
    have P1 := Lib.hid hs
    clear hb hs
    go_wp2_with fail
    refine (psplit_any p ws p.length b rfl HB.out 0 vs HS.out AP1 B cP1 c1 w1 P1.out LB.out).mono ?_
    rintro e w2 ⟨AP2, cP2, rfl, hs, hb⟩
    replace LA := Lib.hid (LA.out.next hb)
    replace LB := Lib.hid (LB.out.next hb)
    replace LC := Lib.hid (LC.out.next hb)
    replace P1 := Lib.hid (P1.out.next hb)
    replace HBL := Lib.hid (HBL.out.trans (hb.mono HBL.out.size))
    have P2 := Lib.hid hs
    clear hb hs
    go_wp2_with fail
    refine (samen_true vs vs.length a rfl HA.out AP2 A cP2 c w2 P2.out LA.out).mono ?_
    rintro e w3 ⟨rfl, hb⟩
    replace LA := Lib.hid (LA.out.next hb)
    replace LB := Lib.hid (LB.out.next hb)
    replace LC := Lib.hid (LC.out.next hb)
    replace P1 := Lib.hid (P1.out.next hb)
    replace P2 := Lib.hid (P2.out.next hb)
    replace HBL := Lib.hid (HBL.out.trans (hb.mono HBL.out.size))
    clear hb
    by_cases g0 : G = 0
    · subst g0
      have hj : joinX v ws = (0, l) := by have := split_join (l := l) (ws := ws) (by rw [HG.out]); rw [HG.out] at this; exact this
      have HJ := Lib.hid hj
      clear hj
      go_wp2_with fail
      refine (psplit_any l ws m b HC.out HB.out 0 v HG.out C B c2 c1 w3 LC.out LB.out).mono ?_
      rintro e w4 ⟨AQ1, cQ1, rfl, hs, hb⟩
      replace LA := Lib.hid (LA.out.next hb)
      replace LB := Lib.hid (LB.out.next hb)
      replace LC := Lib.hid (LC.out.next hb)
      replace P1 := Lib.hid (P1.out.next hb)
      replace P2 := Lib.hid (P2.out.next hb)
      replace HBL := Lib.hid (HBL.out.trans (hb.mono HBL.out.size))
      have Q1 := Lib.hid hs
      clear hb hs
      go_wp2_with fail
      refine (pjoin_any v ws v.length b rfl HB.out 0 l HJ.out AQ1 B cQ1 c1 w4 Q1.out LB.out (join_in64 HJ.out)).mono ?_
      rintro e w5 ⟨AQ2, cQ2, rfl, hs, hb⟩
      replace LA := Lib.hid (LA.out.next hb)
      replace LB := Lib.hid (LB.out.next hb)
      replace LC := Lib.hid (LC.out.next hb)
      replace P1 := Lib.hid (P1.out.next hb)
      replace P2 := Lib.hid (P2.out.next hb)
      replace Q1 := Lib.hid (Q1.out.next hb)
      replace HBL := Lib.hid (HBL.out.trans (hb.mono HBL.out.size))
      have Q2 := Lib.hid hs
      clear hb hs
      rw [← HC.out]
      go_wp2_with fail
      refine (coded_any w5).mono ?_
      rintro e w6 ⟨rfl, hb⟩
      replace LA := Lib.hid (LA.out.next hb)
      replace LB := Lib.hid (LB.out.next hb)
      replace LC := Lib.hid (LC.out.next hb)
      replace P1 := Lib.hid (P1.out.next hb)
      replace P2 := Lib.hid (P2.out.next hb)
      replace Q1 := Lib.hid (Q1.out.next hb)
      replace Q2 := Lib.hid (Q2.out.next hb)
      replace HBL := Lib.hid (HBL.out.trans (hb.mono HBL.out.size))
      clear hb
      go_wp2_with fail
      refine (same_true l m m HC.out HC.out AQ2 C cQ2 c2 w6 Q2.out LC.out).mono ?_
      rintro e w7 ⟨rfl, hb⟩
      replace LA := Lib.hid (LA.out.next hb)
      replace LB := Lib.hid (LB.out.next hb)
      replace LC := Lib.hid (LC.out.next hb)
      replace P1 := Lib.hid (P1.out.next hb)
      replace P2 := Lib.hid (P2.out.next hb)
      replace Q1 := Lib.hid (Q1.out.next hb)
      replace Q2 := Lib.hid (Q2.out.next hb)
      replace HBL := Lib.hid (HBL.out.trans (hb.mono HBL.out.size))
      clear hb
      go_wp2
      go_ret
      exact ⟨rfl, HBL.out⟩
    have z1 : (G == 0) = false := by rw [beq_eq_false_iff_ne]; exact g0
    have z2 : (G != 0) = true := by rw [bne_iff_ne]; exact g0
    obtain rfl : v = [] := by have := split_not (l := l) (ws := ws) (by rw [HG.out]; exact g0); rw [HG.out] at this; exact this
    go_wp2_with fail
    refine (psplit_any l ws m b HC.out HB.out G [] HG.out C B c2 c1 w3 LC.out LB.out).mono ?_
    rintro e w4 ⟨AQ1, cQ1, rfl, hs, hb⟩
    replace LA := Lib.hid (LA.out.next hb)
    replace LB := Lib.hid (LB.out.next hb)
    replace LC := Lib.hid (LC.out.next hb)
    replace P1 := Lib.hid (P1.out.next hb)
    replace P2 := Lib.hid (P2.out.next hb)
    replace HBL := Lib.hid (HBL.out.trans (hb.mono HBL.out.size))
    have Q1 := Lib.hid hs
    clear hb hs
    go_wp2_with fail
    refine (coded_any w4).mono ?_
    rintro e w5 ⟨rfl, hb⟩
    replace LA := Lib.hid (LA.out.next hb)
    replace LB := Lib.hid (LB.out.next hb)
    replace LC := Lib.hid (LC.out.next hb)
    replace P1 := Lib.hid (P1.out.next hb)
    replace P2 := Lib.hid (P2.out.next hb)
    replace Q1 := Lib.hid (Q1.out.next hb)
    replace HBL := Lib.hid (HBL.out.trans (hb.mono HBL.out.size))
    clear hb
    go_wp2
    go_ret
    exact ⟨rfl, HBL.out⟩
  have y1 : (E == 0) = false := by rw [beq_eq_false_iff_ne]; exact e0
  have y2 : (E != 0) = true := by rw [bne_iff_ne]; exact e0
  go_enter Try.func6, Try.ntmps6
  go_wp2_with fail
  refine (pjoin_any vs ws a b HA.out HB.out E p HE.out A B c c1 w LA.out LB.out HV.out).mono ?_
  rintro e w1 ⟨AP1, cP1, rfl, hs, hb⟩
  replace LA := Lib.hid (LA.out.next hb)
  replace LB := Lib.hid (LB.out.next hb)
  replace LC := Lib.hid (LC.out.next hb)
  replace HBL := Lib.hid (HBL.out.trans (hb.mono HBL.out.size))
  have P1 := Lib.hid hs
  clear hb hs
  by_cases g0 : G = 0
  · subst g0
    have hj : joinX v ws = (0, l) := by have := split_join (l := l) (ws := ws) (by rw [HG.out]); rw [HG.out] at this; exact this
    have HJ := Lib.hid hj
    clear hj
    go_wp2_with fail
    refine (psplit_any l ws m b HC.out HB.out 0 v HG.out C B c2 c1 w1 LC.out LB.out).mono ?_
    rintro e w2 ⟨AQ1, cQ1, rfl, hs, hb⟩
    replace LA := Lib.hid (LA.out.next hb)
    replace LB := Lib.hid (LB.out.next hb)
    replace LC := Lib.hid (LC.out.next hb)
    replace P1 := Lib.hid (P1.out.next hb)
    replace HBL := Lib.hid (HBL.out.trans (hb.mono HBL.out.size))
    have Q1 := Lib.hid hs
    clear hb hs
    go_wp2_with fail
    refine (pjoin_any v ws v.length b rfl HB.out 0 l HJ.out AQ1 B cQ1 c1 w2 Q1.out LB.out (join_in64 HJ.out)).mono ?_
    rintro e w3 ⟨AQ2, cQ2, rfl, hs, hb⟩
    replace LA := Lib.hid (LA.out.next hb)
    replace LB := Lib.hid (LB.out.next hb)
    replace LC := Lib.hid (LC.out.next hb)
    replace P1 := Lib.hid (P1.out.next hb)
    replace Q1 := Lib.hid (Q1.out.next hb)
    replace HBL := Lib.hid (HBL.out.trans (hb.mono HBL.out.size))
    have Q2 := Lib.hid hs
    clear hb hs
    rw [← HC.out]
    go_wp2_with fail
    refine (coded_any w3).mono ?_
    rintro e w4 ⟨rfl, hb⟩
    replace LA := Lib.hid (LA.out.next hb)
    replace LB := Lib.hid (LB.out.next hb)
    replace LC := Lib.hid (LC.out.next hb)
    replace P1 := Lib.hid (P1.out.next hb)
    replace Q1 := Lib.hid (Q1.out.next hb)
    replace Q2 := Lib.hid (Q2.out.next hb)
    replace HBL := Lib.hid (HBL.out.trans (hb.mono HBL.out.size))
    clear hb
    go_wp2_with fail
    refine (same_true l m m HC.out HC.out AQ2 C cQ2 c2 w4 Q2.out LC.out).mono ?_
    rintro e w5 ⟨rfl, hb⟩
    replace LA := Lib.hid (LA.out.next hb)
    replace LB := Lib.hid (LB.out.next hb)
    replace LC := Lib.hid (LC.out.next hb)
    replace P1 := Lib.hid (P1.out.next hb)
    replace Q1 := Lib.hid (Q1.out.next hb)
    replace Q2 := Lib.hid (Q2.out.next hb)
    replace HBL := Lib.hid (HBL.out.trans (hb.mono HBL.out.size))
    clear hb
    go_wp2
    go_ret
    exact ⟨rfl, HBL.out⟩
  have z1 : (G == 0) = false := by rw [beq_eq_false_iff_ne]; exact g0
  have z2 : (G != 0) = true := by rw [bne_iff_ne]; exact g0
  obtain rfl : v = [] := by have := split_not (l := l) (ws := ws) (by rw [HG.out]; exact g0); rw [HG.out] at this; exact this
  go_wp2_with fail
  refine (psplit_any l ws m b HC.out HB.out G [] HG.out C B c2 c1 w1 LC.out LB.out).mono ?_
  rintro e w2 ⟨AQ1, cQ1, rfl, hs, hb⟩
  replace LA := Lib.hid (LA.out.next hb)
  replace LB := Lib.hid (LB.out.next hb)
  replace LC := Lib.hid (LC.out.next hb)
  replace P1 := Lib.hid (P1.out.next hb)
  replace HBL := Lib.hid (HBL.out.trans (hb.mono HBL.out.size))
  have Q1 := Lib.hid hs
  clear hb hs
  go_wp2_with fail
  refine (coded_any w2).mono ?_
  rintro e w3 ⟨rfl, hb⟩
  replace LA := Lib.hid (LA.out.next hb)
  replace LB := Lib.hid (LB.out.next hb)
  replace LC := Lib.hid (LC.out.next hb)
  replace P1 := Lib.hid (P1.out.next hb)
  replace Q1 := Lib.hid (Q1.out.next hb)
  replace HBL := Lib.hid (HBL.out.trans (hb.mono HBL.out.size))
  clear hb
  go_wp2
  go_ret
  exact ⟨rfl, HBL.out⟩
end Go.Proofs.Ytekgoleadblhhaa
