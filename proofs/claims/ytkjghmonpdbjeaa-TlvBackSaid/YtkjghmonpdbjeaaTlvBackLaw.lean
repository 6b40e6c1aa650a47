/-
  Law TlvBack walked: it answers true. Conditions: the slices read as fields and bytes.
-/
import Derived.Test.YtkjghmonpdbjeaaTlvListed
namespace Go.Proofs.Ytkjghmonpdbjeaa
set_option linter.unusedVariables false
open Go.ChangeShapes Go.WideShapes Go.ChangeAt Go.RowKit

set_option maxRecDepth 100000 in
set_option maxHeartbeats 1600000 in
theorem back17_rg (l : List Tf) (b : List Nat) (n n' : Nat) (hn : n = l.length) (hn' : n' = b.length) (A A' : Option Addr) (c c' : Nat) (w : World) (hb : bigT l = false) (hl : n' ≤ 3000) (hi : isT 0 l = true) (d : List Tf) (hE : gotT b = (0, d)) (hA : Ts w w.heap.size l A c) (hA' : Bs w w.heap.size b A' c') : Calls Try.prog 6 #[.slice A n c, .slice A' n' c'] w fun e w' => e = .returned (.bool true) ∧ Below w.heap.size w w' := by
  have h1 := hA.len
  have h2 := hA.cap
  have h3 := hA'.len
  have h4 := hA'.cap
  have hn3 : n ≤ 9223372036854775807 := by omega
  have hn4 : n' ≤ 9223372036854775807 := by omega
  have HN := Lib.hid hn
  have HN' := Lib.hid hn'
  have B1 := Lib.hid hA
  have B2 := Lib.hid hA'
  have HBL := Lib.hid (Below.refl w.heap.size w)
  clear h1 h2 h3 h4 hn hn' hA hA'
  have p0 : ¬ ((3000 : Int) < (n' : Int)) := by omega
  have HB := Lib.hid hb
  have HE := Lib.hid hE
  have HP := Lib.hid (outT_ok hi)
  have HG := Lib.hid (gotT_put hi)
  obtain ⟨i1, i2⟩ := isT_short hi (by omega) (by omega)
  have i3 := putT_len l (fun f hf => (i2 f hf).1)
  generalize putT l = p at *
  obtain ⟨m, hm⟩ : ∃ m, p.length = m := ⟨_, rfl⟩
  rw [hm] at i3
  have hm6 : m ≤ 1000000 := by omega
  have HM := Lib.hid hm
  clear i1 i2 i3 hm
  obtain ⟨j1, j2⟩ := putT_got B2.out.lt hE
  have HIS := Lib.hid j1
  have HPB := Lib.hid (show outT d = (0, b) by rw [outT_ok j1, j2])
  clear j1 j2
  clear hb hE hi
  go_enter Try.func6, Try.ntmps6
  go_wp2_with fail
  refine (refbig_tlv l n HN.out false HB.out A c w B1.out).mono ?_
  rintro e _ ⟨rfl, rfl⟩
  go_wp2_with fail
  refine (pput_tlv l n HN.out 0 p HP.out A c w B1.out).mono ?_
  rintro e w1 ⟨AP1, cP1, rfl, hs, hb⟩
  replace B1 := Lib.hid (B1.out.next hb)
  replace B2 := Lib.hid (B2.out.next hb)
  replace HBL := Lib.hid (HBL.out.trans (hb.mono HBL.out.size))
  have P1 := Lib.hid hs
  clear hb hs
  rw [HM.out]
  go_wp2_with fail
  refine (pget_tlv p m HM.out.symm hm6 0 l HG.out AP1 cP1 w1 P1.out).mono ?_
  rintro e w2 ⟨AG1, cG1, rfl, hs, hb⟩
  replace B1 := Lib.hid (B1.out.next hb)
  replace B2 := Lib.hid (B2.out.next hb)
  replace P1 := Lib.hid (P1.out.next hb)
  replace HBL := Lib.hid (HBL.out.trans (hb.mono HBL.out.size))
  have G1 := Lib.hid hs
  clear hb hs
  go_wp2_with fail
  refine (refsame_tlv l n l.length HN.out rfl A AG1 c cG1 w2 B1.out G1.out).mono ?_
  rintro e w3 ⟨rfl, hb⟩
  replace B1 := Lib.hid (B1.out.next hb)
  replace B2 := Lib.hid (B2.out.next hb)
  replace P1 := Lib.hid (P1.out.next hb)
  replace G1 := Lib.hid (G1.out.next hb)
  replace HBL := Lib.hid (HBL.out.trans (hb.mono HBL.out.size))
  clear hb
  go_wp2_with fail
  refine (pget_tlv b n' HN'.out (by omega) 0 d HE.out A' c' w3 B2.out).mono ?_
  rintro e w4 ⟨AG2, cG2, rfl, hs, hb⟩
  replace B1 := Lib.hid (B1.out.next hb)
  replace B2 := Lib.hid (B2.out.next hb)
  replace P1 := Lib.hid (P1.out.next hb)
  replace G1 := Lib.hid (G1.out.next hb)
  replace HBL := Lib.hid (HBL.out.trans (hb.mono HBL.out.size))
  have G2 := Lib.hid hs
  clear hb hs
  go_wp2_with fail
  refine (pput_tlv d d.length rfl 0 b HPB.out AG2 cG2 w4 G2.out).mono ?_
  rintro e w5 ⟨AP2, cP2, rfl, hs, hb⟩
  replace B1 := Lib.hid (B1.out.next hb)
  replace B2 := Lib.hid (B2.out.next hb)
  replace P1 := Lib.hid (P1.out.next hb)
  replace G1 := Lib.hid (G1.out.next hb)
  replace G2 := Lib.hid (G2.out.next hb)
  replace HBL := Lib.hid (HBL.out.trans (hb.mono HBL.out.size))
  have P2 := Lib.hid hs
  clear hb hs
  go_wp2_with fail
  refine (listed_any w5).mono ?_
  rintro e w6 ⟨rfl, hb⟩
  replace B1 := Lib.hid (B1.out.next hb)
  replace B2 := Lib.hid (B2.out.next hb)
  replace P1 := Lib.hid (P1.out.next hb)
  replace G1 := Lib.hid (G1.out.next hb)
  replace G2 := Lib.hid (G2.out.next hb)
  replace P2 := Lib.hid (P2.out.next hb)
  replace HBL := Lib.hid (HBL.out.trans (hb.mono HBL.out.size))
  clear hb
  go_wp2_with fail
  refine (same_true b b.length n' rfl HN'.out AP2 A' cP2 c' w6 P2.out B2.out).mono ?_
  rintro e w7 ⟨rfl, hb⟩
  replace B1 := Lib.hid (B1.out.next hb)
  replace B2 := Lib.hid (B2.out.next hb)
  replace P1 := Lib.hid (P1.out.next hb)
  replace G1 := Lib.hid (G1.out.next hb)
  replace G2 := Lib.hid (G2.out.next hb)
  replace P2 := Lib.hid (P2.out.next hb)
  replace HBL := Lib.hid (HBL.out.trans (hb.mono HBL.out.size))
  clear hb
  go_wp2_with fail
  refine (pis_tlv d d.length rfl true HIS.out AG2 cG2 w7 G2.out).mono ?_
  rintro e w8 ⟨rfl, hb⟩
  replace B1 := Lib.hid (B1.out.next hb)
  replace B2 := Lib.hid (B2.out.next hb)
  replace P1 := Lib.hid (P1.out.next hb)
  replace G1 := Lib.hid (G1.out.next hb)
  replace G2 := Lib.hid (G2.out.next hb)
  replace P2 := Lib.hid (P2.out.next hb)
  replace HBL := Lib.hid (HBL.out.trans (hb.mono HBL.out.size))
  clear hb
  go_wp2
  go_ret
  exact ⟨rfl, HBL.out⟩
set_option maxRecDepth 100000 in
set_option maxHeartbeats 1600000 in
theorem back17_rb (l : List Tf) (b : List Nat) (n n' : Nat) (hn : n = l.length) (hn' : n' = b.length) (A A' : Option Addr) (c c' : Nat) (w : World) (hb : bigT l = false) (hl : n' ≤ 3000) (hi : isT 0 l = true) (E : Nat) (hE : gotT b = (E, [])) (h0 : E ≠ 0) (hA : Ts w w.heap.size l A c) (hA' : Bs w w.heap.size b A' c') : Calls Try.prog 6 #[.slice A n c, .slice A' n' c'] w fun e w' => e = .returned (.bool true) ∧ Below w.heap.size w w' := by
  have h1 := hA.len
  have h2 := hA.cap
  have h3 := hA'.len
  have h4 := hA'.cap
  have hn3 : n ≤ 9223372036854775807 := by omega
  have hn4 : n' ≤ 9223372036854775807 := by omega
  have HN := Lib.hid hn
  have HN' := Lib.hid hn'
  have B1 := Lib.hid hA
  have B2 := Lib.hid hA'
  have HBL := Lib.hid (Below.refl w.heap.size w)
  clear h1 h2 h3 h4 hn hn' hA hA'
  have p0 : ¬ ((3000 : Int) < (n' : Int)) := by omega
  have HB := Lib.hid hb
  have HE := Lib.hid hE
  have HP := Lib.hid (outT_ok hi)
  have HG := Lib.hid (gotT_put hi)
  obtain ⟨i1, i2⟩ := isT_short hi (by omega) (by omega)
  have i3 := putT_len l (fun f hf => (i2 f hf).1)
  generalize putT l = p at *
  obtain ⟨m, hm⟩ : ∃ m, p.length = m := ⟨_, rfl⟩
  rw [hm] at i3
  have hm6 : m ≤ 1000000 := by omega
  have HM := Lib.hid hm
  clear i1 i2 i3 hm
  have s1 : ((E : Int) == 0) = false := by rw [beq_eq_false_iff_ne]; omega
  have s2 : ((E : Int) != 0) = true := by rw [bne_iff_ne]; omega
  have s3 : (E == 0) = false := by rw [beq_eq_false_iff_ne]; exact h0
  have s4 : (E != 0) = true := by rw [bne_iff_ne]; exact h0
  clear h0
  clear hb hE hi
  go_enter Try.func6, Try.ntmps6
  go_wp2_with fail
  refine (refbig_tlv l n HN.out false HB.out A c w B1.out).mono ?_
  rintro e _ ⟨rfl, rfl⟩
  go_wp2_with fail
  refine (pput_tlv l n HN.out 0 p HP.out A c w B1.out).mono ?_
  rintro e w1 ⟨AP1, cP1, rfl, hs, hb⟩
  replace B1 := Lib.hid (B1.out.next hb)
  replace B2 := Lib.hid (B2.out.next hb)
  replace HBL := Lib.hid (HBL.out.trans (hb.mono HBL.out.size))
  have P1 := Lib.hid hs
  clear hb hs
  rw [HM.out]
  go_wp2_with fail
  refine (pget_tlv p m HM.out.symm hm6 0 l HG.out AP1 cP1 w1 P1.out).mono ?_
  rintro e w2 ⟨AG1, cG1, rfl, hs, hb⟩
  replace B1 := Lib.hid (B1.out.next hb)
  replace B2 := Lib.hid (B2.out.next hb)
  replace P1 := Lib.hid (P1.out.next hb)
  replace HBL := Lib.hid (HBL.out.trans (hb.mono HBL.out.size))
  have G1 := Lib.hid hs
  clear hb hs
  go_wp2_with fail
  refine (refsame_tlv l n l.length HN.out rfl A AG1 c cG1 w2 B1.out G1.out).mono ?_
  rintro e w3 ⟨rfl, hb⟩
  replace B1 := Lib.hid (B1.out.next hb)
  replace B2 := Lib.hid (B2.out.next hb)
  replace P1 := Lib.hid (P1.out.next hb)
  replace G1 := Lib.hid (G1.out.next hb)
  replace HBL := Lib.hid (HBL.out.trans (hb.mono HBL.out.size))
  clear hb
  go_wp2_with fail
  refine (pget_tlv b n' HN'.out (by omega) E [] HE.out A' c' w3 B2.out).mono ?_
  rintro e w4 ⟨AG2, cG2, rfl, hs, hb⟩
  replace B1 := Lib.hid (B1.out.next hb)
  replace B2 := Lib.hid (B2.out.next hb)
  replace P1 := Lib.hid (P1.out.next hb)
  replace G1 := Lib.hid (G1.out.next hb)
  replace HBL := Lib.hid (HBL.out.trans (hb.mono HBL.out.size))
  have G2 := Lib.hid hs
  clear hb hs
  go_wp2_with fail
  refine (listed_any w4).mono ?_
  rintro e w5 ⟨rfl, hb⟩
  replace B1 := Lib.hid (B1.out.next hb)
  replace B2 := Lib.hid (B2.out.next hb)
  replace P1 := Lib.hid (P1.out.next hb)
  replace G1 := Lib.hid (G1.out.next hb)
  replace G2 := Lib.hid (G2.out.next hb)
  replace HBL := Lib.hid (HBL.out.trans (hb.mono HBL.out.size))
  clear hb
  go_wp2
  go_ret
  exact ⟨rfl, HBL.out⟩
set_option maxRecDepth 100000 in
set_option maxHeartbeats 1600000 in
theorem back17_wg (l : List Tf) (b : List Nat) (n n' : Nat) (hn : n = l.length) (hn' : n' = b.length) (A A' : Option Addr) (c c' : Nat) (w : World) (hb : bigT l = false) (hl : n' ≤ 3000) (hi : isT 0 l = false) (d : List Tf) (hE : gotT b = (0, d)) (hA : Ts w w.heap.size l A c) (hA' : Bs w w.heap.size b A' c') : Calls Try.prog 6 #[.slice A n c, .slice A' n' c'] w fun e w' => e = .returned (.bool true) ∧ Below w.heap.size w w' := by
  have h1 := hA.len
  have h2 := hA.cap
  have h3 := hA'.len
  have h4 := hA'.cap
  have hn3 : n ≤ 9223372036854775807 := by omega
  have hn4 : n' ≤ 9223372036854775807 := by omega
  have HN := Lib.hid hn
  have HN' := Lib.hid hn'
  have B1 := Lib.hid hA
  have B2 := Lib.hid hA'
  have HBL := Lib.hid (Below.refl w.heap.size w)
  clear h1 h2 h3 h4 hn hn' hA hA'
  have p0 : ¬ ((3000 : Int) < (n' : Int)) := by omega
  have HB := Lib.hid hb
  have HE := Lib.hid hE
  have HP := Lib.hid (outT_bad hi)
  obtain ⟨j1, j2⟩ := putT_got B2.out.lt hE
  have HIS := Lib.hid j1
  have HPB := Lib.hid (show outT d = (0, b) by rw [outT_ok j1, j2])
  clear j1 j2
  clear hb hE hi
  go_enter Try.func6, Try.ntmps6
  go_wp2_with fail
  refine (refbig_tlv l n HN.out false HB.out A c w B1.out).mono ?_
  rintro e _ ⟨rfl, rfl⟩
  go_wp2_with fail
  refine (pput_tlv l n HN.out 1 [] HP.out A c w B1.out).mono ?_
  rintro e w1 ⟨AP1, cP1, rfl, hs, hb⟩
  replace B1 := Lib.hid (B1.out.next hb)
  replace B2 := Lib.hid (B2.out.next hb)
  replace HBL := Lib.hid (HBL.out.trans (hb.mono HBL.out.size))
  have P1 := Lib.hid hs
  clear hb hs
  go_wp2_with fail
  refine (pget_tlv b n' HN'.out (by omega) 0 d HE.out A' c' w1 B2.out).mono ?_
  rintro e w2 ⟨AG2, cG2, rfl, hs, hb⟩
  replace B1 := Lib.hid (B1.out.next hb)
  replace B2 := Lib.hid (B2.out.next hb)
  replace P1 := Lib.hid (P1.out.next hb)
  replace HBL := Lib.hid (HBL.out.trans (hb.mono HBL.out.size))
  have G2 := Lib.hid hs
  clear hb hs
  go_wp2_with fail
  refine (pput_tlv d d.length rfl 0 b HPB.out AG2 cG2 w2 G2.out).mono ?_
  rintro e w3 ⟨AP2, cP2, rfl, hs, hb⟩
  replace B1 := Lib.hid (B1.out.next hb)
  replace B2 := Lib.hid (B2.out.next hb)
  replace P1 := Lib.hid (P1.out.next hb)
  replace G2 := Lib.hid (G2.out.next hb)
  replace HBL := Lib.hid (HBL.out.trans (hb.mono HBL.out.size))
  have P2 := Lib.hid hs
  clear hb hs
  go_wp2_with fail
  refine (listed_any w3).mono ?_
  rintro e w4 ⟨rfl, hb⟩
  replace B1 := Lib.hid (B1.out.next hb)
  replace B2 := Lib.hid (B2.out.next hb)
  replace P1 := Lib.hid (P1.out.next hb)
  replace G2 := Lib.hid (G2.out.next hb)
  replace P2 := Lib.hid (P2.out.next hb)
  replace HBL := Lib.hid (HBL.out.trans (hb.mono HBL.out.size))
  clear hb
  go_wp2_with fail
  refine (same_true b b.length n' rfl HN'.out AP2 A' cP2 c' w4 P2.out B2.out).mono ?_
  rintro e w5 ⟨rfl, hb⟩
  replace B1 := Lib.hid (B1.out.next hb)
  replace B2 := Lib.hid (B2.out.next hb)
  replace P1 := Lib.hid (P1.out.next hb)
  replace G2 := Lib.hid (G2.out.next hb)
  replace P2 := Lib.hid (P2.out.next hb)
  replace HBL := Lib.hid (HBL.out.trans (hb.mono HBL.out.size))
  clear hb
  go_wp2_with fail
  refine (pis_tlv d d.length rfl true HIS.out AG2 cG2 w5 G2.out).mono ?_
  rintro e w6 ⟨rfl, hb⟩
  replace B1 := Lib.hid (B1.out.next hb)
  replace B2 := Lib.hid (B2.out.next hb)
  replace P1 := Lib.hid (P1.out.next hb)
  replace G2 := Lib.hid (G2.out.next hb)
  replace P2 := Lib.hid (P2.out.next hb)
  replace HBL := Lib.hid (HBL.out.trans (hb.mono HBL.out.size))
  clear hb
  go_wp2
  go_ret
  exact ⟨rfl, HBL.out⟩
set_option maxRecDepth 100000 in
set_option maxHeartbeats 1600000 in
theorem back17_wb (l : List Tf) (b : List Nat) (n n' : Nat) (hn : n = l.length) (hn' : n' = b.length) (A A' : Option Addr) (c c' : Nat) (w : World) (hb : bigT l = false) (hl : n' ≤ 3000) (hi : isT 0 l = false) (E : Nat) (hE : gotT b = (E, [])) (h0 : E ≠ 0) (hA : Ts w w.heap.size l A c) (hA' : Bs w w.heap.size b A' c') : Calls Try.prog 6 #[.slice A n c, .slice A' n' c'] w fun e w' => e = .returned (.bool true) ∧ Below w.heap.size w w' := by
  have h1 := hA.len
  have h2 := hA.cap
  have h3 := hA'.len
  have h4 := hA'.cap
  have hn3 : n ≤ 9223372036854775807 := by omega
  have hn4 : n' ≤ 9223372036854775807 := by omega
  have HN := Lib.hid hn
  have HN' := Lib.hid hn'
  have B1 := Lib.hid hA
  have B2 := Lib.hid hA'
  have HBL := Lib.hid (Below.refl w.heap.size w)
  clear h1 h2 h3 h4 hn hn' hA hA'
  have p0 : ¬ ((3000 : Int) < (n' : Int)) := by omega
  have HB := Lib.hid hb
  have HE := Lib.hid hE
  have HP := Lib.hid (outT_bad hi)
  have s1 : ((E : Int) == 0) = false := by rw [beq_eq_false_iff_ne]; omega
  have s2 : ((E : Int) != 0) = true := by rw [bne_iff_ne]; omega
  have s3 : (E == 0) = false := by rw [beq_eq_false_iff_ne]; exact h0
  have s4 : (E != 0) = true := by rw [bne_iff_ne]; exact h0
  clear h0
  clear hb hE hi
  go_enter Try.func6, Try.ntmps6
  go_wp2_with fail
  refine (refbig_tlv l n HN.out false HB.out A c w B1.out).mono ?_
  rintro e _ ⟨rfl, rfl⟩
  go_wp2_with fail
  refine (pput_tlv l n HN.out 1 [] HP.out A c w B1.out).mono ?_
  rintro e w1 ⟨AP1, cP1, rfl, hs, hb⟩
  replace B1 := Lib.hid (B1.out.next hb)
  replace B2 := Lib.hid (B2.out.next hb)
  replace HBL := Lib.hid (HBL.out.trans (hb.mono HBL.out.size))
  have P1 := Lib.hid hs
  clear hb hs
  go_wp2_with fail
  refine (pget_tlv b n' HN'.out (by omega) E [] HE.out A' c' w1 B2.out).mono ?_
  rintro e w2 ⟨AG2, cG2, rfl, hs, hb⟩
  replace B1 := Lib.hid (B1.out.next hb)
  replace B2 := Lib.hid (B2.out.next hb)
  replace P1 := Lib.hid (P1.out.next hb)
  replace HBL := Lib.hid (HBL.out.trans (hb.mono HBL.out.size))
  have G2 := Lib.hid hs
  clear hb hs
  go_wp2_with fail
  refine (listed_any w2).mono ?_
  rintro e w3 ⟨rfl, hb⟩
  replace B1 := Lib.hid (B1.out.next hb)
  replace B2 := Lib.hid (B2.out.next hb)
  replace P1 := Lib.hid (P1.out.next hb)
  replace G2 := Lib.hid (G2.out.next hb)
  replace HBL := Lib.hid (HBL.out.trans (hb.mono HBL.out.size))
  clear hb
  go_wp2
  go_ret
  exact ⟨rfl, HBL.out⟩
set_option maxRecDepth 100000 in
set_option maxHeartbeats 1600000 in
theorem back17_any (l : List Tf) (b : List Nat) (n n' : Nat) (hn : n = l.length) (hn' : n' = b.length) (A A' : Option Addr) (c c' : Nat) (w : World) (hA : Ts w w.heap.size l A c) (hA' : Bs w w.heap.size b A' c') : Calls Try.prog 6 #[.slice A n c, .slice A' n' c'] w fun e w' => e = .returned (.bool true) ∧ Below w.heap.size w w' := by
  cases hb : bigT l with
  | true =>
    have h1 := hA.len
    have h2 := hA.cap
    have h3 := hA'.len
    have h4 := hA'.cap
    have hn3 : n ≤ 9223372036854775807 := by omega
    have hn4 : n' ≤ 9223372036854775807 := by omega
    have HN := Lib.hid hn
    have HN' := Lib.hid hn'
    have B1 := Lib.hid hA
    have B2 := Lib.hid hA'
    have HBL := Lib.hid (Below.refl w.heap.size w)
    clear h1 h2 h3 h4 hn hn' hA hA'
    have HB := Lib.hid hb
    clear hb
    go_enter Try.func6, Try.ntmps6
    go_wp2_with fail
    refine (refbig_tlv l n HN.out true HB.out A c w B1.out).mono ?_
    rintro e _ ⟨rfl, rfl⟩
    go_wp2
    go_ret
    exact ⟨rfl, HBL.out⟩
  | false =>
    by_cases hl : n' ≤ 3000
    · obtain ⟨E, d, hE⟩ : ∃ E d, gotT b = (E, d) := ⟨_, _, rfl⟩
      by_cases h0 : E = 0
      · subst h0
        cases hi : isT 0 l with
        | true => exact back17_rg l b n n' hn hn' A A' c c' w hb hl hi d hE hA hA'
        | false => exact back17_wg l b n n' hn hn' A A' c c' w hb hl hi d hE hA hA'
      · obtain rfl := gotT_bad hE h0
        cases hi : isT 0 l with
        | true => exact back17_rb l b n n' hn hn' A A' c c' w hb hl hi E hE h0 hA hA'
        | false => exact back17_wb l b n n' hn hn' A A' c c' w hb hl hi E hE h0 hA hA'
    · have p0 : (3000 : Int) < (n' : Int) := by omega
      have h1 := hA.len
      have h2 := hA.cap
      have h3 := hA'.len
      have h4 := hA'.cap
      have hn3 : n ≤ 9223372036854775807 := by omega
      have hn4 : n' ≤ 9223372036854775807 := by omega
      have HN := Lib.hid hn
      have HN' := Lib.hid hn'
      have B1 := Lib.hid hA
      have B2 := Lib.hid hA'
      have HBL := Lib.hid (Below.refl w.heap.size w)
      clear h1 h2 h3 h4 hn hn' hA hA'
      have HB := Lib.hid hb
      clear hb hl
      go_enter Try.func6, Try.ntmps6
      go_wp2_with fail
      refine (refbig_tlv l n HN.out false HB.out A c w B1.out).mono ?_
      rintro e _ ⟨rfl, rfl⟩
      go_wp2
      go_ret
      exact ⟨rfl, HBL.out⟩
end Go.Proofs.Ytkjghmonpdbjeaa
