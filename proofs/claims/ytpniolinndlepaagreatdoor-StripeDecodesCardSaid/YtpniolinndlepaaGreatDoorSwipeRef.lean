/-
  The reference's Turn and Read of swipe.
-/
import Derived.Test.YtpniolinndlepaaGreatDoorTrackM
import Derived.Test.YtpniolinndlepaaGreatDoorTrackA
import Derived.Test.YtpniolinndlepaaGreatDoorTrackRefGet
namespace Go.Proofs.YtpniolinndlepaaGreatDoor
set_option linter.unusedVariables false
open Go.ChangeShapes Go.WideShapes Go.ChangeAt Go.RowKit

set_option maxRecDepth 100000 in
set_option maxHeartbeats 1600000 in
theorem refturn_any (b : List Nat) (n : Nat) (hn : n = b.length) (hn2 : n ≤ 1000) (A : Option Addr) (c : Nat) (w : World) (hA : Bs w w.heap.size b A c) : Calls Tryz.prog 79 #[.slice A n c] w fun e w' => ∃ A' c', e = .returned (.slice A' (n : Nat) c') ∧ Bs w' w'.heap.size (turnL b) A' c' ∧ Below w.heap.size w w' := by
  obtain ⟨i0, hi, hz0, hz1, hz2⟩ := info_parts infoBoolT
  obtain ⟨m, hm⟩ : ∃ m, 8 * n = m := ⟨_, rfl⟩
  obtain ⟨L, hL⟩ : ∃ L, unpackL b = L := ⟨_, rfl⟩
  have hu := refunpack_any b n hn hn2 A c w hA
  have hlen : L.length = m := by rw [← hL, unpackL_len, ← hn, hm]
  have hpk : packL L.reverse = turnL b := by rw [← hL]; rfl
  rw [hm, hL] at hu
  have hpm : (m + 7) / 8 = n := by omega
  have hm2 : m ≤ 8000 := by omega
  have HU := Lib.hid hu
  have HL := Lib.hid hlen
  have HP := Lib.hid hpk
  have HPM := Lib.hid hpm
  clear hn hA hm hL hu hlen hpk hpm
  go_enter Tryz.func79, Tryz.ntmps79
  go_wp2_with fail
  refine HU.out.mono ?_
  rintro e w1 ⟨AU, cU, rfl, hs, hb⟩
  have HS := Lib.hid hs
  have HB1 := Lib.hid hb
  clear hs hb HU
  go_wp2
  go_loopw [4, 5] (fun v i wr => ∃ (k : Nat) (z : Int), z + (k : Int) + 1 = (m : Int) ∧ -1 ≤ z ∧ i = .int .i64 z ∧ wr.ownsRow w1.heap.size 4 1 v k (BL (L.reverse.take k)) ∧ Below w1.heap.size w1 wr) (fun _ i _ => (intOf i + 1).toNat)
  case atStart => exact ⟨0, (m : Int) - 1, by omega, by omega, rfl, World.ownsRow_lit w1 #[] 0 (Nat.le_refl _) (by decide) rfl, below_lit w1 _ _⟩
  case round =>
    obtain ⟨k, z, hkz, hz, rfl, hown, hbel⟩ := hrel
    have HOW := Lib.hid hown
    have HBL := Lib.hid hbel
    clear hown hbel
    by_cases hlt : 0 ≤ z
    · obtain ⟨q, rfl⟩ : ∃ q : Nat, z = (q : Int) := ⟨z.toNat, by omega⟩
      have hkL : k < L.length := by rw [HL.out]; omega
      have hqL : q < L.length := by rw [HL.out]; omega
      have hq : q = L.length - 1 - k := by rw [HL.out]; omega
      have hst := rev_take L k hkL
      rw [← hq] at hst
      obtain ⟨t, ht⟩ : ∃ t, L.getD q false = t := ⟨_, rfl⟩
      have hqt : L[q]? = some t := by rw [← ht, List.getD_eq_getElem?_getD, List.getElem?_eq_getElem hqL]; rfl
      rw [ht] at hst
      obtain ⟨ad, rfl, hadl, hc0⟩ := HS.out.at hqt
      have hc : wr.cell? (ad.add q) = some (.bool t) := (HBL.out.cell (by rw [add_block]; exact hadl)).trans hc0
      have HST := Lib.hid hst
      have HKZ := Lib.hid hkz
      have b0 : (0 : Int) ≤ (q : Int) := by omega
      have b1 : (q : Int) < (m : Int) := by omega
      have hm1 : k + 1 ≤ maxLen := by unfold maxLen; omega
      have hm3 : (k + 1) * 1 ≤ 140737488355328 := by omega
      have wq : IntKind.i64.wrap ((q : Int) - 1) = (q : Int) - 1 := IntWalk.i64_in _ (by omega)
      have hsz := HBL.out.size
      clear hst ht hqt hc0 hadl hq hqL hkL hkz hz hlt
      go_wp2_with (at_builtin; refine wpList_append_own _ rfl (.tmp 16) (.tmp 21) 67 rfl w1.heap.size 4 i0 (.bool false) 1 1 Tryz.underlying67 hi hz0 hz1 hz2 rfl (by decide) _ k (BL (L.reverse.take k)) rfl (HOW.out.alloc _) ⟨_, 0, none⟩ 1 1 [.bool t] rfl rfl (bool_lit _ _) (bool_one _) hm1 hm3 (by simp; omega) ?_)
      intro v8 w8 hown8 hg8 _
      have HO8 := Lib.hid (show w8.ownsRow w1.heap.size 4 1 v8 (k + 1) (BL (L.reverse.take (k + 1))) by
        rw [HST.out, BL_append]
        exact hown8)
      have HB8 := Lib.hid ((HBL.out.alloc HBL.out.size _).grown hg8 (by simp; omega) (fun p hp => own_ge HOW.out hp))
      clear hown8 hg8 HOW HBL hc
      go_wp2
      go_roundw
      case rel => exact ⟨k + 1, (q : Int) - 1, by have := HKZ.out; omega, by omega, by first | rfl | go_num, HO8.out, HB8.out⟩
      case measure => first | (simp [intOf]; done) | (simp [intOf]; omega)
    · have e : k = m := by omega
      have hb : ¬ ((0 : Int) ≤ z) := hlt
      have hd : decide ((0 : Int) ≤ z) = false := decide_eq_false hlt
      have ht : L.reverse.take k = L.reverse := by rw [List.take_of_length_le]; rw [List.length_reverse, HL.out]; omega
      rw [ht, e] at HOW
      clear ht e hkz
      obtain ⟨A', c', hv, hvl, hvs⟩ := vs_of_own HOW.out
      clear hvl
      subst hv
      go_wp2_with fail
      refine (refpack_any L.reverse m (by rw [List.length_reverse, HL.out]) (by omega) A' c' wr hvs).mono ?_
      rintro e w2 ⟨AP, cP, rfl, hs, hb2⟩
      rw [HPM.out]
      rw [HP.out] at hs
      have HS2 := Lib.hid hs
      have HB2 := Lib.hid (HB1.out.trans ((HBL.out.trans (hb2.mono HBL.out.size)).mono HB1.out.size))
      clear hs hb2 hvs
      go_wp2
      go_ret
      exact ⟨_, _, rfl, HS2.out, HB2.out⟩
set_option linter.unusedVariables false
open Go.ChangeShapes Go.WideShapes Go.ChangeAt Go.RowKit

set_option maxRecDepth 100000 in
set_option maxHeartbeats 1600000 in
theorem refread_any (b : List Nat) (n : Nat) (hn : n = b.length) (hn2 : n ≤ 1000) (E : Int) (hE : readE b = E) (o : Bool) (ho : readO b = o) (p : List Nat) (hP : readL b = p) (A : Option Addr) (c : Nat) (w : World) (hA : Bs w w.heap.size b A c) : Calls Tryz.prog 38 #[.slice A n c] w fun e w' => ∃ A' c', e = .returned (.tuple #[.slice A' (p.length : Nat) c', .bool o, .int .i64 E]) ∧ Bs w' w'.heap.size p A' c' ∧ Below w.heap.size w w' := by
  have HN := Lib.hid hn
  have HA := Lib.hid hA
  have HE := Lib.hid hE
  have HO := Lib.hid ho
  have HP := Lib.hid hP
  obtain ⟨E1, hE1⟩ : ∃ E1, getE b = E1 := ⟨_, rfl⟩
  obtain ⟨E2, hE2⟩ : ∃ E2, getE (turnL b) = E2 := ⟨_, rfl⟩
  obtain ⟨p1, hp1⟩ : ∃ p1, getL b = p1 := ⟨_, rfl⟩
  obtain ⟨p2, hp2⟩ : ∃ p2, getL (turnL b) = p2 := ⟨_, rfl⟩
  have HE1 := Lib.hid hE1
  have HE2 := Lib.hid hE2
  have Hp1 := Lib.hid hp1
  have Hp2 := Lib.hid hp2
  clear hn hA hE ho hP hE1 hE2 hp1 hp2
  go_enter Tryz.func38, Tryz.ntmps38
  go_wp2_with fail
  refine (refget11_any b n HN.out (by omega) E1 HE1.out p1 Hp1.out A c w HA.out).mono ?_
  rintro e w1 ⟨AG, cG, rfl, hs, hb⟩
  have HS := Lib.hid hs
  have HB1 := Lib.hid hb
  have HA1 := Lib.hid (HA.out.next hb)
  clear hs hb
  cases q : (E1 == 0)
  · have hne : E1 ≠ 0 := by rw [beq_eq_false_iff_ne] at q; exact q
    have HNE := Lib.hid hne
    clear hne
    go_wp2_with fail
    refine (refturn_any b n HN.out (by omega) A c w1 HA1.out).mono ?_
    rintro e w2 ⟨AT, cT, rfl, hs, hb⟩
    have HT := Lib.hid hs
    have HB2 := Lib.hid (HB1.out.trans (hb.mono HB1.out.size))
    clear hs hb
    go_wp2_with fail
    refine (refget11_any (turnL b) n (by rw [turn_len]; exact HN.out) (by omega) E2 HE2.out p2 Hp2.out AT cT w2 HT.out).mono ?_
    rintro e w3 ⟨AH, cH, rfl, hs, hb⟩
    have HS3 := Lib.hid hs
    have HB3 := Lib.hid (HB2.out.trans (hb.mono HB2.out.size))
    clear hs hb
    cases q2 : (E2 == 0)
    · have hne2 : E2 ≠ 0 := by rw [beq_eq_false_iff_ne] at q2; exact q2
      obtain ⟨h1, h2, h3⟩ := read_none (by rw [HE1.out]; exact HNE.out) (by rw [HE2.out]; exact hne2)
      have eE : E = E1 := HE.out.symm.trans (h1.trans HE1.out)
      have eO : o = false := HO.out.symm.trans h2
      have eP : p = [] := HP.out.symm.trans h3
      subst eE eO eP
      clear h1 h2 h3 hne2
      go_wp2
      go_ret3
      exact ⟨none, 0, rfl, ⟨by intro k u hu; simp [U8] at hu, fun _ => rfl, by simp, by omega, by simp⟩, HB3.out⟩
    · have hz : E2 = 0 := by rw [beq_iff_eq] at q2; exact q2
      subst hz
      obtain ⟨h1, h2, h3⟩ := read_second (by rw [HE1.out]; exact HNE.out) HE2.out
      have eE : E = 0 := HE.out.symm.trans h1
      have eO : o = true := HO.out.symm.trans h2
      have eP : p = p2 := HP.out.symm.trans (h3.trans Hp2.out)
      subst eE eO eP
      clear h1 h2 h3 q q2
      go_wp2
      go_ret3
      exact ⟨_, _, rfl, HS3.out, HB3.out⟩
  · have hz : E1 = 0 := by rw [beq_iff_eq] at q; exact q
    subst hz
    obtain ⟨h1, h2, h3⟩ := read_first HE1.out
    have eE : E = 0 := HE.out.symm.trans h1
    have eO : o = false := HO.out.symm.trans h2
    have eP : p = p1 := HP.out.symm.trans (h3.trans Hp1.out)
    subst eE eO eP
    clear h1 h2 h3 q
    go_wp2
    go_ret3
    exact ⟨_, _, rfl, HS.out, HB1.out⟩
end Go.Proofs.YtpniolinndlepaaGreatDoor
