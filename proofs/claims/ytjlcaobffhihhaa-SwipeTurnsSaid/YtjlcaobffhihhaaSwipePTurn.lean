/-
  Contract for the landed Turn. Conditions: the slice reads as bytes; at most 1048576 of them.
-/
import Derived.Test.YtjlcaobffhihhaaSwipeMath
import Derived.Test.YtjlcaobffhihhaaTrackPPack
import Derived.BigRegion
namespace Go.Proofs.Ytjlcaobffhihhaa
set_option linter.unusedVariables false
open Go.ChangeShapes Go.WideShapes Go.ChangeAt Go.RowKit

set_option maxRecDepth 100000 in
set_option maxHeartbeats 1600000 in
theorem pturn_any (b : List Nat) (n : Nat) (hn : n = b.length) (hn2 : n ≤ 1048576) (A : Option Addr) (c : Nat) (w : World) (hA : Bs w w.heap.size b A c) : Calls Try.prog 7 #[.slice A n c] w fun e w' => ∃ A' c', e = .returned (.slice A' (n : Nat) c') ∧ Bs w' w'.heap.size (turnL b) A' c' ∧ Below w.heap.size w w' := by
  obtain ⟨m, hm⟩ : ∃ m, 8 * n = m := ⟨_, rfl⟩
  obtain ⟨L, hL⟩ : ∃ L, unpackL b = L := ⟨_, rfl⟩
  obtain ⟨h, hh⟩ : ∃ h, m / 2 = h := ⟨_, rfl⟩
  have hu := punpack_own b n hn hn2 A c w hA
  have hlen : L.length = m := by rw [← hL, unpackL_len, ← hn, hm]
  have hpk : packL L.reverse = turnL b := by rw [← hL]; rfl
  rw [hm, hL] at hu
  have hpm : (m + 7) / 8 = n := by omega
  have hm2 : m ≤ 8388608 := by omega
  have h8 : m % 2 = 0 := by omega
  have HU := Lib.hid hu
  have HL := Lib.hid hlen
  have HP := Lib.hid hpk
  have HPM := Lib.hid hpm
  have HH := Lib.hid hh
  have H8 := Lib.hid h8
  have eh : (m : Int) / 2 = (h : Int) := by omega
  have eh2 : (m : Int).tdiv 2 = (h : Int) := by rw [Int.tdiv_eq_ediv_of_nonneg (by omega)]; exact eh
  clear hn hA hm hL hh hu hlen hpk hpm h8
  go_enter Try.func7, Try.ntmps7
  go_wp2_with fail
  refine HU.out.mono ?_
  rintro e w1 ⟨rfl, ho, hb⟩
  have HOW := Lib.hid (show w1.ownsRow w.heap.size 4 1 (.slice (some ⟨w.heap.size, 0, none⟩) m m) m (BL (revP L 0)) by rw [revP_zero]; exact ho)
  have HBL := Lib.hid hb
  clear ho hb
  go_wp2
  go_loopw [14] (fun i wr => ∃ k : Nat, k ≤ h ∧ i = .int .i64 k ∧ wr.ownsRow w.heap.size 4 1 (.slice (some ⟨w.heap.size, 0, none⟩) m m) m (BL (revP L k)) ∧ Below w.heap.size w wr) (fun i _ => h - (intOf i).toNat)
  case atStart => exact ⟨0, Nat.zero_le _, rfl, HOW.out, HBL.out⟩
  case round =>
    obtain ⟨k, hk, rfl, hown, hbel⟩ := hrel
    replace HOW := Lib.hid hown
    replace HBL := Lib.hid hbel
    clear hown hbel
    by_cases hlt : k < h
    · obtain ⟨q, hq⟩ : ∃ q : Nat, q = m - 1 - k := ⟨_, rfl⟩
      have hkq : 2 * k + 1 < L.length := by rw [HL.out]; have := HH.out; have := H8.out; omega
      have hqm : q < m := by have := HL.out; omega
      have hkm : k < m := by have := HL.out; omega
      have hne : ¬ k = q := by have := HL.out; omega
      have hne2 : ¬ q = k := by omega
      have h1 := revP_low L k hkq
      have h2 := revP_high L k hkq
      have h3 := revP_step L k hkq
      rw [HL.out, ← hq] at h2 h3
      obtain ⟨x, hx⟩ : ∃ x, L.getD k false = x := ⟨_, rfl⟩
      obtain ⟨y, hy⟩ : ∃ y, L.getD q false = y := ⟨_, rfl⟩
      rw [hx] at h1 h3
      rw [hy] at h2 h3
      have cx : wr.cell? ⟨w.heap.size, k, none⟩ = some (.bool x) := by rw [HOW.out.cellAt k (by omega), BL, List.getElem?_map, h1]; rfl
      have cy : wr.cell? ⟨w.heap.size, q, none⟩ = some (.bool y) := by rw [HOW.out.cellAt q (by omega), BL, List.getElem?_map, h2]; rfl
      have fx := HOW.out.frozenAt k
      have fy := HOW.out.frozenAt q
      have HST := Lib.hid (show ((wr.setCell ⟨w.heap.size, k, none⟩ (.bool y)).setCell ⟨w.heap.size, q, none⟩ (.bool x)).ownsRow w.heap.size 4 1 (.slice (some ⟨w.heap.size, 0, none⟩) m m) m (BL (revP L (k + 1))) by
        have h := ((HOW.out.stored k (.bool y)).1.stored q (.bool x)).1
        have e : ((BL (revP L k)).set k (.bool y)).set q (.bool x) = BL (revP L (k + 1)) := by rw [← h3, BL, BL, List.map_set, List.map_set]
        rw [e] at h
        exact h)
      have HSB := Lib.hid (show Below w.heap.size w ((wr.setCell ⟨w.heap.size, k, none⟩ (.bool y)).setCell ⟨w.heap.size, q, none⟩ (.bool x)) from (HBL.out.setCell (p := ⟨w.heap.size, k, none⟩) (Nat.le_refl _) _).setCell (p := ⟨w.heap.size, q, none⟩) (Nat.le_refl _) _)
      have ezq : (m : Int) - 1 - (k : Int) = (q : Int) := by omega
      have wz : IntKind.i64.wrap ((m : Int) - 1 - (k : Int)) = (q : Int) := by rw [ezq]; exact IntWalk.i64_in _ (by omega)
      have b0 : (0 : Int) ≤ (k : Int) := by omega
      have b1 : (k : Int) < (m : Int) := by omega
      have b2 : (k : Int) < (h : Int) := by omega
      have b3 : (0 : Int) ≤ (q : Int) := by omega
      have b4 : (q : Int) < (m : Int) := by omega
      clear h1 h2 h3 hx hy hq hkq hlt
      go_wp2_with fail
      go_region
      all_goals
        go_wp2
        go_roundw
        case rel => exact ⟨k + 1, by omega, by go_num, HST.out.drew, HSB.out.drew⟩
        case measure => simp [intOf]; omega
    · have e : k = h := by omega
      have hb : ¬ ((k : Int) < (h : Int)) := by omega
      have ht : revP L k = L.reverse := revP_half L k (by rw [e, HL.out, HH.out])
      rw [ht] at HOW
      clear ht hlt e
      obtain ⟨A', c', hv, hvl, hvs⟩ := vs_of_own HOW.out
      clear hvl
      cases hv
      go_wp2_with fail
      refine (ppack_any L.reverse m (by rw [List.length_reverse, HL.out]) (by omega) _ m wr hvs).mono ?_
      rintro e w2 ⟨AP, cP, rfl, hs, hb2⟩
      rw [HPM.out]
      rw [HP.out] at hs
      have HS := Lib.hid hs
      have HB2 := Lib.hid (HBL.out.trans (hb2.mono HBL.out.size))
      clear hs hb2 hvs
      go_wp2
      go_ret
      exact ⟨_, _, rfl, HS.out, HB2.out⟩
end Go.Proofs.Ytjlcaobffhihhaa
