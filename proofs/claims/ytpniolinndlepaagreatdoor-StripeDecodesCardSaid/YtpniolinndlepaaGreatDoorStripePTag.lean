/-
  Contract for the landed Tag of stripe: the ten digits. Conditions: the slices read as bytes, at most 5000 of the secret and 3999 of the digits; sha's tables hold what its text lays.
-/
import Derived.Test.YtpniolinndlepaaGreatDoorStripeMath
import Derived.Test.YtpniolinndlepaaGreatDoorMacP
import Derived.Test.YtpniolinndlepaaGreatDoorSealP
import Derived.Test.YtpniolinndlepaaGreatDoorBase
namespace Go.Proofs.YtpniolinndlepaaGreatDoor
set_option maxRecDepth 100000
set_option linter.unusedVariables false
open Go.ChangeShapes Go.WideShapes Go.ChangeAt Go.RowKit

theorem Bs.part {w : World} {s : List Nat} {A : Option Addr} {c : Nat} (h : Bs w w.heap.size s A c) : Part.ok w ⟨A, s, c⟩ := ⟨h.rd, h.nil⟩
/-- Two rows of bytes, one behind the other: what a block of two slices is joined to. -/
theorem concat2 (a b L : List Nat) (hL : a ++ b = L) (n m k : Nat) (hn : n = a.length) (hm : m = b.length) (hk : k = L.length) (A B : Option Addr) (c d : Nat) (w : World) (ha : Rd w w.heap.size A (U8 a)) (hb : Rd w w.heap.size B (U8 b)) (hnA : A = none → c = 0) (hnB : B = none → d = 0) (hla : ∀ x ∈ a, x < 256) (hlb : ∀ x ∈ b, x < 256) (h0 : 0 < k) (h1 : k ≤ 140737488355328) :
    Calls Tryz.prog 26 #[.slice (some ⟨w.heap.size, 0, none⟩) 2 2] (w.alloc (.cells #[.slice A n c, .slice B m d] 30)) fun e w' => ∃ A' c', e = .returned (.slice A' k c') ∧ Bs w' w'.heap.size L A' c' ∧ Below w.heap.size w w' := by
  subst hL hk
  have hf : a ++ b = cflat [⟨A, a, c⟩, ⟨B, b, d⟩] := by simp [cflat]
  have hbl := below_lit w #[.slice A n c, .slice B m d] 30
  rw [hf] at h0 h1 ⊢
  refine (concat_any [⟨A, a, c⟩, ⟨B, b, d⟩] w.heap.size 2 2 _ rfl (by simp) (parts_lit (by simp [Part.val, hn, hm])) ?_ (by omega) h0 h1).mono ?_
  · intro p hp
    refine Part.ok_alloc ?_ _
    simp only [List.mem_cons, List.not_mem_nil, or_false] at hp
    rcases hp with rfl | rfl
    · exact ⟨ha, hnA⟩
    · exact ⟨hb, hnB⟩
  · rintro e w' ⟨v, rfl, hown, hbw⟩
    rw [← hf] at hown ⊢
    obtain ⟨A', c', rfl, hs⟩ := bs_of_own hown (fun x hx => by
      rcases List.mem_append.1 hx with h | h
      · exact hla x h
      · exact hlb x h)
    exact ⟨A', c', rfl, hs, hbl.trans (hbw.mono hbl.size)⟩
set_option maxRecDepth 100000 in
set_option maxHeartbeats 1600000 in
theorem ptag_any (s l : List Nat) (n m : Nat) (hn : n = s.length) (hm : m = l.length) (A B : Option Addr) (c d : Nat) (w : World) (hT : Tabs w) (hA : Bs w w.heap.size s A c) (hB : Bs w w.heap.size l B d) (h5 : n ≤ 5000) (h4 : m ≤ 3999) (T : List Nat) (hTg : tagS s l = T) :
    Calls Tryz.prog 16 #[.slice A n c, .slice B m d] w fun e w' => ∃ g cap, e = .returned (.slice (some ⟨g, 0, none⟩) 10 cap) ∧ Rd w' w'.heap.size (some ⟨g, 0, none⟩) (U8 T) ∧ Below w.heap.size w w' := by
  obtain ⟨L, hL⟩ : ∃ L, 83 :: l = L := ⟨_, rfl⟩
  obtain ⟨k, hk⟩ : ∃ k, k = m + 1 := ⟨_, rfl⟩
  obtain ⟨V, hV⟩ : ∃ V, tagN s L = V := ⟨_, rfl⟩
  obtain ⟨v, hv⟩ : ∃ v, valB (V.take 4) = v := ⟨_, rfl⟩
  obtain ⟨F, hF⟩ : ∃ F : Array Value, F = (U8 V).toArray := ⟨_, rfl⟩
  have HVL := Lib.hid (show V.length = 32 by rw [← hV]; exact length_dig _)
  have HVB := Lib.hid (show ∀ x ∈ V, x < 256 by rw [← hV]; exact dig_lt _)
  have HL1 := Lib.hid (show [83] ++ l = L by rw [← hL]; rfl)
  have HLK := Lib.hid (show k = L.length by rw [← hL, hk, hm]; rfl)
  have HLB := Lib.hid (show ∀ x ∈ L, x < 256 by rw [← hL]; intro x hx; rcases List.mem_cons.1 hx with rfl | h; decide; exact hB.lt x h)
  have HFV := Lib.hid (show F = (U8 (tagN s L)).toArray by rw [hV]; exact hF)
  have HF := Lib.hid hF
  have HV := Lib.hid hv
  have HVLT := Lib.hid (show v ≤ 4294967295 by
    rw [← hv]
    have h := valB_lt (V.take 4) (fun x hx => HVB.out x (List.mem_of_mem_take hx))
    rw [List.length_take, HVL.out] at h
    exact Nat.le_of_lt_succ h)
  have HTV := Lib.hid (show dec v = T by rw [← hTg, tagS, hL, hV, hv])
  have HN := Lib.hid hn
  have HM := Lib.hid hm
  have HT := Lib.hid hT
  have HA := Lib.hid hA
  have HB := Lib.hid hB
  have HK := Lib.hid hk
  have hk4 : k ≤ 4000 := by omega
  clear hL hV hv hF hn hm hT hA hB hTg hk
  go_enter Tryz.func16, Tryz.ntmps16
  go_wp2_with fail
  obtain ⟨w1, hw1⟩ : ∃ w1, w.alloc (.cells #[.int .u8 83] 5) = w1 := ⟨_, rfl⟩
  have hs1 : w.heap.size + 1 = w1.heap.size := by rw [← hw1]; simp
  rw [hw1, hs1]
  have h83 : Rd w1 w1.heap.size (some ⟨w.heap.size, 0, none⟩) (U8 [83]) := by rw [← hw1]; exact rd_lit w #[.int .u8 83] 5
  have hb01 : Below w.heap.size w w1 := by rw [← hw1]; exact below_lit w _ _
  have HB01 := Lib.hid hb01
  have HB1 := Lib.hid (HB.out.next hb01)
  clear hs1 hw1 hb01
  refine (concat2 [83] l L HL1.out 1 m k rfl HM.out HLK.out _ B 1 d w1 h83 HB1.out.rd (fun h => by cases h) HB1.out.nil (by decide) HB1.out.lt (by have := HK.out; omega) (by omega)).mono ?_
  rintro e w2 ⟨AL, cL, rfl, hs2, hb2⟩
  have HS2 := Lib.hid hs2
  have HB2 := Lib.hid (HB01.out.trans (hb2.mono HB01.out.size))
  clear hs2 hb2 h83
  go_wp2_with fail
  refine (mactag_any s L n k HN.out HLK.out A AL c cL w2 (HT.out.next HB2.out) (HA.out.next HB2.out).rd HS2.out.rd HA.out.nil HS2.out.nil HA.out.lt HLB.out h5 hk4 F HFV.out).mono ?_
  rintro e w3 ⟨rfl, hb3⟩
  have HB3 := Lib.hid (HB2.out.trans (hb3.mono HB2.out.size))
  have HIS := Lib.hid (isArr32 HF.out HVL.out)
  clear hb3
  go_wp2_with (first
    | ((with_reducible refine at_store 5 ?_); refine wpList_store_named (o := ⟨none, .store 63 (.tmp 5) (.tmp 13), _, _, _, _⟩) rfl 63 (.tmp 5) (.tmp 13) rfl w3.heap.size F rfl rfl 63 b32 (heap_alloc_new w3 _) HIS.out.1 HIS.out.2.1 HIS.out.2.2 ?_; intro w4 hw4; have HR4 := Lib.hid (row_made hw4.out))
    | ((with_reducible refine at_load 15 ?_); refine wpList_load_row (o := ⟨some 15, .load 63 (.tmp 5), _, _, _, _⟩) rfl 63 (.tmp 5) rfl w3.heap.size rfl 63 F (0, 0) _ HR4.out.2.1 Tryz.underlying63 rfl HIS.out.1 ?_))
  have HB4 := Lib.hid (HB3.out.trans (HR4.out.2.2.mono HB3.out.size))
  refine (cut_any V F HF.out _ HVB.out HVL.out).mono ?_
  rintro e w5 ⟨rfl, hb5⟩
  have HB5 := Lib.hid (HB4.out.trans (hb5.mono HB4.out.size))
  clear hb5
  rw [HV.out]
  go_wp2_with fail
  refine (digits_ok v _ HVLT.out).mono ?_
  rintro e w6 ⟨g, cap, rfl, hr6, hb6⟩
  rw [HTV.out] at hr6
  have HR6 := Lib.hid hr6
  have HB6 := Lib.hid (HB5.out.trans (hb6.mono HB5.out.size))
  clear hr6 hb6
  go_wp2
  go_ret
  exact ⟨g, cap, rfl, HR6.out, HB6.out⟩
end Go.Proofs.YtpniolinndlepaaGreatDoor
