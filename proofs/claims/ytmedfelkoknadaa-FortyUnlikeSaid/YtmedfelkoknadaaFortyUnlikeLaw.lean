/-
  Law FortyUnlike walked: it answers true. Conditions: the slices read as bytes.
-/
import Derived.Test.YtmedfelkoknadaaFortySigned
namespace Go.Proofs.Ytmedfelkoknadaa
set_option linter.unusedVariables false
open Go.ChangeShapes Go.WideShapes Go.ChangeAt Go.RowKit

theorem putF_told {a b : List Nat} (ha : ∀ x ∈ a, x < 256) (hb : ∀ x ∈ b, x < 256) : (putF a == putF b) = (a == b) := by
  rw [Bool.eq_iff_iff, beq_iff_eq, beq_iff_eq]
  exact ⟨putF_inj ha hb, fun h => by rw [h]⟩
set_option maxRecDepth 100000 in
set_option maxHeartbeats 1600000 in
theorem unlike16_any (b b' : List Nat) (n n' : Nat) (hn : n = b.length) (hn' : n' = b'.length) (A A' : Option Addr) (c c' : Nat) (w : World) (hA : Bs w w.heap.size b A c) (hA' : Bs w w.heap.size b' A' c') : Calls Try.prog 7 #[.slice A n c, .slice A' n' c'] w fun e w' => e = .returned (.bool true) ∧ Below w.heap.size w w' := by
  have h1 := hA.len
  have h2 := hA.cap
  have h3 := hA'.len
  have h4 := hA'.cap
  have hn3 : n ≤ 9223372036854775807 := by omega
  have hn4 : n' ≤ 9223372036854775807 := by omega
  have HN := Lib.hid hn
  have HN' := Lib.hid hn'
  have B1 := Lib.hid hA
  have B2 := Lib.hid hA'
  have HBL := Lib.hid (Below.refl w.heap.size w)
  clear h1 h2 h3 h4 hn hn' hA hA'
  by_cases q0 : 2000 < n
  · have p0 : (2000 : Int) < (n : Int) := by omega
    go_enter Try.func7, Try.ntmps7
    go_wp2
    go_ret
    exact ⟨rfl, Below.refl _ _⟩
  have p0 : ¬ ((2000 : Int) < (n : Int)) := by omega
  by_cases q1 : 2000 < n'
  · have p1 : (2000 : Int) < (n' : Int) := by omega
    go_enter Try.func7, Try.ntmps7
    go_wp2
    go_ret
    exact ⟨rfl, Below.refl _ _⟩
  have p1 : ¬ ((2000 : Int) < (n' : Int)) := by omega
  have ht := putF_told B1.out.lt B2.out.lt
  obtain ⟨p, hp⟩ : ∃ p, putF b = p := ⟨_, rfl⟩
  obtain ⟨p', hp'⟩ : ∃ p, putF b' = p := ⟨_, rfl⟩
  rw [hp, hp'] at ht
  have HP := Lib.hid hp
  have HP' := Lib.hid hp'
  obtain ⟨t, h0⟩ : ∃ t, (b == b') = t := ⟨_, rfl⟩
  have HT := Lib.hid (ht.trans h0)
  have H0 := Lib.hid h0
  clear hp hp' ht h0
  go_enter Try.func7, Try.ntmps7
  go_wp2_with fail
  refine (signed_any w).mono ?_
  rintro e w1 ⟨rfl, hb⟩
  replace B1 := Lib.hid (B1.out.next hb)
  replace B2 := Lib.hid (B2.out.next hb)
  replace HBL := Lib.hid (HBL.out.trans (hb.mono HBL.out.size))
  clear hb
  go_wp2_with fail
  refine (pput_forty b n HN.out (by omega) p HP.out A c w1 B1.out).mono ?_
  rintro e w2 ⟨AP1, cP1, rfl, hs, hb⟩
  replace B1 := Lib.hid (B1.out.next hb)
  replace B2 := Lib.hid (B2.out.next hb)
  replace HBL := Lib.hid (HBL.out.trans (hb.mono HBL.out.size))
  have P1 := Lib.hid hs
  clear hb hs
  go_wp2_with fail
  refine (pput_forty b' n' HN'.out (by omega) p' HP'.out A' c' w2 B2.out).mono ?_
  rintro e w3 ⟨AP2, cP2, rfl, hs, hb⟩
  replace B1 := Lib.hid (B1.out.next hb)
  replace B2 := Lib.hid (B2.out.next hb)
  replace P1 := Lib.hid (P1.out.next hb)
  replace HBL := Lib.hid (HBL.out.trans (hb.mono HBL.out.size))
  have P2 := Lib.hid hs
  clear hb hs
  go_wp2_with fail
  refine (same_told p p' t HT.out p.length p'.length rfl rfl AP1 AP2 cP1 cP2 w3 P1.out P2.out).mono ?_
  rintro e w4 ⟨rfl, hb⟩
  replace B1 := Lib.hid (B1.out.next hb)
  replace B2 := Lib.hid (B2.out.next hb)
  replace P1 := Lib.hid (P1.out.next hb)
  replace P2 := Lib.hid (P2.out.next hb)
  replace HBL := Lib.hid (HBL.out.trans (hb.mono HBL.out.size))
  clear hb
  go_wp2_with fail
  refine (same_told b b' t H0.out n n' HN.out HN'.out A A' c c' w4 B1.out B2.out).mono ?_
  rintro e w5 ⟨rfl, hb⟩
  replace B1 := Lib.hid (B1.out.next hb)
  replace B2 := Lib.hid (B2.out.next hb)
  replace P1 := Lib.hid (P1.out.next hb)
  replace P2 := Lib.hid (P2.out.next hb)
  replace HBL := Lib.hid (HBL.out.trans (hb.mono HBL.out.size))
  clear hb
  go_wp2
  go_ret
  exact ⟨by cases t <;> rfl, HBL.out⟩
end Go.Proofs.Ytmedfelkoknadaa
