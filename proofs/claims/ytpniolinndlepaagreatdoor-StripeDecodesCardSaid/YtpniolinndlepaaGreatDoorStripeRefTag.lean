/-
  Contract for the reference's Tag of stripe. Conditions: the slices read as bytes, at most 5000 of the secret and 3999 of the digits.
-/
import Derived.Test.YtpniolinndlepaaGreatDoorStripeMath
import Derived.Test.YtpniolinndlepaaGreatDoorMacRef
import Derived.Test.YtpniolinndlepaaGreatDoorSealP
import Derived.Test.YtpniolinndlepaaGreatDoorBase
namespace Go.Proofs.YtpniolinndlepaaGreatDoor
set_option linter.unusedVariables false
open Go.ChangeShapes Go.WideShapes Go.ChangeAt Go.RowKit

set_option maxRecDepth 100000 in
set_option maxHeartbeats 1600000 in
theorem rtag_any (s l : List Nat) (n m : Nat) (hn : n = s.length) (hm : m = l.length) (A B : Option Addr) (c d : Nat) (w : World) (hA : Bs w w.heap.size s A c) (hB : Bs w w.heap.size l B d) (h5 : n ≤ 5000) (h4 : m ≤ 3999) (T : List Nat) (hTg : tagS s l = T) :
    Calls Tryz.prog 17 #[.slice A n c, .slice B m d] w fun e w' => ∃ g cap, e = .returned (.slice (some ⟨g, 0, none⟩) 10 cap) ∧ Rd w' w'.heap.size (some ⟨g, 0, none⟩) (U8 T) ∧ Below w.heap.size w w' := by
  obtain ⟨i0, hi, hz0, hz1, hz2⟩ := info_parts infoU8
  obtain ⟨L, hL⟩ : ∃ L, 83 :: l = L := ⟨_, rfl⟩
  obtain ⟨V, hV⟩ : ∃ V, tagN s L = V := ⟨_, rfl⟩
  obtain ⟨v, hv⟩ : ∃ v, valB (V.take 4) = v := ⟨_, rfl⟩
  obtain ⟨F, hF⟩ : ∃ F : Array Value, F = (U8 V).toArray := ⟨_, rfl⟩
  have HVL := Lib.hid (show V.length = 32 by rw [← hV]; exact length_dig _)
  have HVB := Lib.hid (show ∀ x ∈ V, x < 256 by rw [← hV]; exact dig_lt _)
  have HL1 := Lib.hid (show U8 [83] ++ U8 l = U8 L by rw [← hL]; rfl)
  have HLK := Lib.hid (show 1 + m = L.length by rw [← hL, hm, List.length_cons]; omega)
  have HLB := Lib.hid (show ∀ x ∈ L, x < 256 by rw [← hL]; intro x hx; rcases List.mem_cons.1 hx with rfl | h; decide; exact hB.lt x h)
  have HFV := Lib.hid (show F = (U8 (tagN s L)).toArray by rw [hV]; exact hF)
  have HF := Lib.hid hF
  have HV := Lib.hid hv
  have HVLT := Lib.hid (show v ≤ 4294967295 by
    rw [← hv]
    have h := valB_lt (V.take 4) (fun x hx => HVB.out x (List.mem_of_mem_take hx))
    rw [List.length_take, HVL.out] at h
    exact Nat.le_of_lt_succ h)
  have HTV := Lib.hid (show dec v = T by rw [← hTg, tagS, hL, hV, hv])
  have HM := Lib.hid (show (U8 l).length = m by simp [U8, hm])
  have HN := Lib.hid hn
  have HA := Lib.hid hA
  have HB := Lib.hid hB
  have hbl := below_lit w #[.int .u8 83] 5
  have hown : (w.alloc (.cells #[.int .u8 83] 5)).ownsRow w.heap.size 5 1 (.slice (some ⟨w.heap.size, 0, none⟩) 1 1) 1 (U8 [83]) := World.ownsRow_lit (e := 5) (base := w.heap.size) (size := 1) w #[.int .u8 83] 1 (Nat.le_refl _) (by unfold maxLen; omega) rfl
  have HOWN := Lib.hid hown
  have HBW := Lib.hid (hB.next hbl)
  have HBL := Lib.hid hbl
  have hbs := hbl.size
  have h64 : 1 + m ≤ maxLen := by unfold maxLen; omega
  clear hL hV hv hF hn hm hA hB hTg hown hbl
  go_enter Tryz.func17, Tryz.ntmps17
  go_wp2_with (at_builtin; refine wpList_append_rd _ rfl (.tmp 9) (.tmp 10) 30 rfl w.heap.size 5 i0 (.int .u8 0) 1 Tryz.underlying30 hi hz0 hz1 hz2 rfl (.slice (some ⟨w.heap.size, 0, none⟩) 1 1) 1 (U8 [83]) rfl HOWN.out _ B m d (U8 l) rfl HBW.out.rd HM.out HBW.out.nil (U8_one l) h64 (by omega) hbs ?_; intro v2 w2 hown2 hg2; rw [HL1.out] at hown2; obtain ⟨AL, cL, rfl, hs2⟩ := bs_of_own hown2 HLB.out; have HS2 := Lib.hid hs2; have HB2 := Lib.hid (show Below w.heap.size w w2 from HBL.out.grown hg2 HBL.out.size (fun p hp => by cases hp; exact Nat.le_refl _)); clear hown2 hg2 hs2)
  refine (reftag_any s L n (1 + m) HN.out HLK.out A AL c cL w2 (HA.out.next HB2.out).rd HS2.out.rd HA.out.nil HS2.out.nil HA.out.lt HLB.out h5 (by omega) F HFV.out).mono ?_
  rintro e w3 ⟨rfl, hb3⟩
  have HB3 := Lib.hid (HB2.out.trans (hb3.mono HB2.out.size))
  clear hb3
  go_wp2_with fail
  refine (refcut_any V F HF.out _ HVB.out HVL.out).mono ?_
  rintro e w4 ⟨rfl, hb4⟩
  have HB4 := Lib.hid (HB3.out.trans (hb4.mono HB3.out.size))
  clear hb4
  rw [HV.out]
  go_wp2_with fail
  refine (refdigits_ok v _ HVLT.out).mono ?_
  rintro e w6 ⟨g, cap, rfl, hr6, hb6⟩
  rw [HTV.out] at hr6
  have HR6 := Lib.hid hr6
  have HB6 := Lib.hid (HB4.out.trans (hb6.mono HB4.out.size))
  clear hr6 hb6
  go_wp2
  go_ret
  exact ⟨g, cap, rfl, HR6.out, HB6.out⟩
end Go.Proofs.YtpniolinndlepaaGreatDoor
