/-
  Law BcdOrder walked: it answers true. Conditions: two numbers of 64 bits.
-/
import Derived.Test.YtekgoleadblhhaaCoded
import Derived.BigQuiet
import Derived.Deep.RegionHeld3
namespace Go.Proofs.Ytekgoleadblhhaa
set_option linter.unusedVariables false
open Go.ChangeShapes Go.WideShapes Go.ChangeAt Go.RowKit

theorem bs_at {w : World} {B : Nat} {l : List Nat} {A : Option Addr} {c k x : Nat} (h : Bs w B l A c) (hx : l[k]? = some x) : ∃ ad, A = some ad ∧ ad.block < B ∧ w.cell? (ad.add k) = some (.int .u8 x) := h.rd k _ (by rw [U8, List.getElem?_map, hx]; rfl)
theorem order12_len {n t : Int} (h : putE n t = 0) : ∃ K : Nat, t = K ∧ K ≤ 18 ∧ (putL n t).length = K := by
  obtain ⟨N, K, rfl, rfl, h18, _, hp⟩ := put_zero h
  exact ⟨K, rfl, h18, by rw [hp, dg_len]⟩
theorem take_step {l l' : List Nat} {k x : Nat} (h : l.take k = l'.take k) (h1 : l[k]? = some x) (h2 : l'[k]? = some x) : l.take (k + 1) = l'.take (k + 1) := by
  rw [List.take_add_one, List.take_add_one, h, h1, h2]
set_option maxRecDepth 100000 in
set_option maxHeartbeats 1600000 in
theorem order12_any (m n t : Int) (hm : m ≤ 9223372036854775807) (hn : n ≤ 9223372036854775807) (w : World)  : Calls Try.prog 7 #[.int .i64 m, .int .i64 n, .int .i64 t] w fun e w' => e = .returned (.bool true) ∧ Below w.heap.size w w' := by
  have HBL := Lib.hid (Below.refl w.heap.size w)
  obtain ⟨E, hE⟩ : ∃ E, putE m t = E := ⟨_, rfl⟩
  obtain ⟨p, hP⟩ : ∃ p, putL m t = p := ⟨_, rfl⟩
  obtain ⟨F, hF⟩ : ∃ F, putE n t = F := ⟨_, rfl⟩
  obtain ⟨q, hQ⟩ : ∃ q, putL n t = q := ⟨_, rfl⟩
  have HE := Lib.hid hE
  have HP := Lib.hid hP
  have HF := Lib.hid hF
  have HQ := Lib.hid hQ
  clear hE hP hF hQ
  by_cases e0 : E ≠ 0
  · have y1 : (E == 0) = false := by rw [beq_eq_false_iff_ne]; exact e0
    have y2 : (E != 0) = true := by rw [bne_iff_ne]; exact e0
    go_enter Try.func7, Try.ntmps7
    go_wp2_with fail
    refine (pput_any m t E p HE.out HP.out w hm).mono ?_
    rintro e w1 ⟨AP1, cP1, rfl, hs, hb⟩
    replace HBL := Lib.hid (HBL.out.trans (hb.mono HBL.out.size))
    have P1 := Lib.hid hs
    clear hb hs
    go_wp2_with fail
    refine (pput_any n t F q HF.out HQ.out w1 hn).mono ?_
    rintro e w2 ⟨AP2, cP2, rfl, hs, hb⟩
    replace P1 := Lib.hid (P1.out.next hb)
    replace HBL := Lib.hid (HBL.out.trans (hb.mono HBL.out.size))
    have P2 := Lib.hid hs
    clear hb hs
    go_wp2_with fail
    refine (coded_any w2).mono ?_
    rintro e w3 ⟨rfl, hb⟩
    replace P1 := Lib.hid (P1.out.next hb)
    replace P2 := Lib.hid (P2.out.next hb)
    replace HBL := Lib.hid (HBL.out.trans (hb.mono HBL.out.size))
    clear hb
    go_wp2
    go_ret
    exact ⟨rfl, HBL.out⟩
  obtain rfl : E = 0 := by omega
  by_cases f0 : F ≠ 0
  · have y1 : (F == 0) = false := by rw [beq_eq_false_iff_ne]; exact f0
    have y2 : (F != 0) = true := by rw [bne_iff_ne]; exact f0
    go_enter Try.func7, Try.ntmps7
    go_wp2_with fail
    refine (pput_any m t 0 p HE.out HP.out w hm).mono ?_
    rintro e w1 ⟨AP1, cP1, rfl, hs, hb⟩
    replace HBL := Lib.hid (HBL.out.trans (hb.mono HBL.out.size))
    have P1 := Lib.hid hs
    clear hb hs
    go_wp2_with fail
    refine (pput_any n t F q HF.out HQ.out w1 hn).mono ?_
    rintro e w2 ⟨AP2, cP2, rfl, hs, hb⟩
    replace P1 := Lib.hid (P1.out.next hb)
    replace HBL := Lib.hid (HBL.out.trans (hb.mono HBL.out.size))
    have P2 := Lib.hid hs
    clear hb hs
    go_wp2_with fail
    refine (coded_any w2).mono ?_
    rintro e w3 ⟨rfl, hb⟩
    replace P1 := Lib.hid (P1.out.next hb)
    replace P2 := Lib.hid (P2.out.next hb)
    replace HBL := Lib.hid (HBL.out.trans (hb.mono HBL.out.size))
    clear hb
    go_wp2
    go_ret
    exact ⟨rfl, HBL.out⟩
  obtain rfl : F = 0 := by omega
  obtain ⟨K, rfl, h18, hk1⟩ := order12_len HE.out
  obtain ⟨K', hKK, _, hk2⟩ := order12_len HF.out
  obtain rfl : K = K' := by omega
  rw [HP.out] at hk1
  rw [HQ.out] at hk2
  have HK1 := Lib.hid hk1
  have HK2 := Lib.hid hk2
  clear hk1 hk2 e0 f0 hKK
  go_enter Try.func7, Try.ntmps7
  go_wp2_with fail
  refine (pput_any m K 0 p HE.out HP.out w hm).mono ?_
  rintro e w1 ⟨AP1, cP1, rfl, hs, hb⟩
  replace HBL := Lib.hid (HBL.out.trans (hb.mono HBL.out.size))
  have P1 := Lib.hid hs
  clear hb hs
  rw [HK1.out]
  go_wp2_with fail
  refine (pput_any n K 0 q HF.out HQ.out w1 hn).mono ?_
  rintro e w2 ⟨AP2, cP2, rfl, hs, hb⟩
  replace P1 := Lib.hid (P1.out.next hb)
  replace HBL := Lib.hid (HBL.out.trans (hb.mono HBL.out.size))
  have P2 := Lib.hid hs
  clear hb hs
  rw [HK2.out]
  go_wp2
  go_loopw [11] (fun i wr => ∃ k j : Nat, k ≤ K ∧ i = .int .i64 k ∧ wr = w2.drewN j ∧ p.take k = q.take k) (fun i _ => K - (intOf i).toNat)
  case atStart => exact ⟨0, 0, Nat.zero_le _, rfl, rfl, rfl⟩
  case round =>
    obtain ⟨k, j, hk, rfl, rfl, ht⟩ := hrel
    have HT := Lib.hid ht
    clear ht
    by_cases hlt : k < K
    · have hkp : k < p.length := by rw [HK1.out]; exact hlt
      have hkq : k < q.length := by rw [HK2.out]; exact hlt
      obtain ⟨x, hx⟩ : ∃ x, p[k]? = some x := ⟨_, List.getElem?_eq_getElem hkp⟩
      obtain ⟨y, hy⟩ : ∃ y, q[k]? = some y := ⟨_, List.getElem?_eq_getElem hkq⟩
      obtain ⟨ad, rfl, _, hc⟩ := bs_at P1.out hx
      obtain ⟨ad', rfl, _, hc'⟩ := bs_at P2.out hy
      have HX := Lib.hid hx
      have HY := Lib.hid hy
      have b1 : (0 : Int) ≤ (k : Int) := by omega
      have b2 : (k : Int) < (K : Int) := by omega
      clear hx hy hkp hkq
      by_cases he : x = y
      · subst he
        have hd := take_step HT.out HX.out HY.out
        have HD := Lib.hid hd
        clear hd
        go_wp2
        go_quiet (fail)
        go_wp2
        go_roundw
        case rel => exact ⟨k + 1, _, by omega, by go_num, rfl, HD.out⟩
        case measure => simp [intOf]; omega
      · have hb : ((x : Int) == (y : Int)) = false := by rw [beq_eq_false_iff_ne]; omega
        have hb2 : ((x : Int) != (y : Int)) = true := by rw [bne_iff_ne]; omega
        have hb3 : (x == y) = false := by rw [beq_eq_false_iff_ne]; exact he
        have hb4 : (x != y) = true := by rw [bne_iff_ne]; exact he
        have ho := order_at HE.out HF.out (by rw [HP.out, HQ.out]; exact HT.out) (by rw [HP.out]; exact HX.out) (by rw [HQ.out]; exact HY.out) he
        have HO := Lib.hid ho
        clear ho he
        by_cases hmn : m < n
        · have hxy := HO.out.2 hmn
          have hxy' : (x : Int) < (y : Int) := by omega
          go_wp2
          go_quiet (fail)
          go_wp2
          go_region_held3 (fun w' => w'.cell? (ad.add k) = some (.int .u8 (x : Nat)) ∧ w'.cell? (ad'.add k) = some (.int .u8 (y : Nat))) (first | exact ⟨hd1, hd2⟩ | go_keep) ((go_at_call 12; refine (coded_any _).mono ?_; rintro e w5 ⟨rfl, hb⟩; have HBD := Lib.hid ((below_drewN (Below.refl _ _) _).trans (hb.mono (Nat.le_refl _))); have HBL1 := Lib.hid (HBL.out.trans (HBD.out.mono HBL.out.size)); obtain ⟨_, e1, _, hd1⟩ := bs_at (P1.out.next HBD.out) HX.out; cases e1; obtain ⟨_, e2, _, hd2⟩ := bs_at (P2.out.next HBD.out) HY.out; cases e2; clear hb))
          all_goals go_wp2
          all_goals go_ret
          all_goals exact ⟨by first | rfl | simp [hmn], HBL1.out⟩
        · have hxy : ¬ x < y := fun h => hmn (HO.out.1 h)
          have hxy' : ¬ ((x : Int) < (y : Int)) := by omega
          go_wp2
          go_quiet (fail)
          go_wp2
          go_region_held3 (fun w' => w'.cell? (ad.add k) = some (.int .u8 (x : Nat)) ∧ w'.cell? (ad'.add k) = some (.int .u8 (y : Nat))) (first | exact ⟨hd1, hd2⟩ | go_keep) ((go_at_call 12; refine (coded_any _).mono ?_; rintro e w5 ⟨rfl, hb⟩; have HBD := Lib.hid ((below_drewN (Below.refl _ _) _).trans (hb.mono (Nat.le_refl _))); have HBL1 := Lib.hid (HBL.out.trans (HBD.out.mono HBL.out.size)); obtain ⟨_, e1, _, hd1⟩ := bs_at (P1.out.next HBD.out) HX.out; cases e1; obtain ⟨_, e2, _, hd2⟩ := bs_at (P2.out.next HBD.out) HY.out; cases e2; clear hb))
          all_goals go_wp2
          all_goals go_ret
          all_goals exact ⟨by first | rfl | simp [hmn], HBL1.out⟩
    · obtain rfl : k = K := by omega
      have h1 := HT.out
      rw [List.take_of_length_le (by rw [HK1.out]; omega), List.take_of_length_le (by rw [HK2.out]; omega)] at h1
      obtain rfl : m = n := order_same HE.out HF.out (by rw [HP.out, HQ.out]; exact h1)
      clear h1
      go_wp2_with fail
      refine (coded_any _).mono ?_
      rintro e w5 ⟨rfl, hb⟩
      have HBD := Lib.hid ((below_drewN (Below.refl _ _) _).trans (hb.mono (Nat.le_refl _)))
      clear hb
      go_wp2
      go_ret
      exact ⟨rfl, HBL.out.trans (HBD.out.mono HBL.out.size)⟩
end Go.Proofs.Ytekgoleadblhhaa
