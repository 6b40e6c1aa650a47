/-
  Contract for the reference's Encode of stripe. Conditions: the slice reads as keys; the numbers fit an int.
-/
import Derived.Test.YtpniolinndlepaaGreatDoorStripeRefTag
import Derived.Test.YtpniolinndlepaaGreatDoorStripePEnc
import Derived.Test.YtpniolinndlepaaGreatDoorLayRefPut
import Derived.Test.YtpniolinndlepaaGreatDoorTrackRefPut
import Derived.Test.YtpniolinndlepaaGreatDoorRingPFA
namespace Go.Proofs.YtpniolinndlepaaGreatDoor
set_option linter.unusedVariables false
open Go.ChangeShapes Go.WideShapes Go.ChangeAt Go.RowKit

theorem U8_append9 (a b : List Nat) : U8 a ++ U8 b = U8 (a ++ b) := by simp [U8]
set_option maxRecDepth 100000 in
set_option maxHeartbeats 1600000 in
theorem renc_a (l : List K) (n : Nat) (hn : n = l.length) (hn3 : n ≤ 9223372036854775807) (A : Option Addr) (c : Nat) (r : Rg) (hin : InR r) (E : Int) (p : List Nat) (hE : encX l r = (E, p)) (w : World) (hA : Ks w w.heap.size A l) (h1 : isR l = false) : Calls Tryz.prog 11 #[.slice A n c, .agg #[.int .i64 r.t.ser, .int .i64 r.t.kind, .int .i64 r.t.frm, .int .i64 r.t.till, .int .i64 r.t.cls, .int .i64 r.t.card, .int .i64 r.t.seat, .int .i64 r.t.day, .int .i64 r.t.days, .int .i64 r.t.uses, .int .i64 r.t.epoch, .int .i64 r.key, .int .i64 r.left, .int .i64 r.inn, .int .i64 r.ver]] w fun e w' => ∃ A' c', e = .returned (.tuple #[.slice A' (p.length : Nat) c', .int .i64 E]) ∧ Bs w' w'.heap.size p A' c' ∧ Below w.heap.size w w' := by
  obtain ⟨rfl, rfl⟩ : E = 1 ∧ p = [] := by rw [encX, if_pos h1] at hE; exact ⟨(Prod.mk.inj hE).1.symm, (Prod.mk.inj hE).2.symm⟩
  have H1 := Lib.hid h1
  clear hE h1
  have HN := Lib.hid hn
  have HA := Lib.hid hA
  have HI := Lib.hid hin
  clear hn hA hin
  have HBL := Lib.hid (Below.refl w.heap.size w)
  go_enter Tryz.func11, Tryz.ntmps11
  go_wp2_with fail
  obtain ⟨w1, hw⟩ : ∃ w1, w1 = w.alloc (.cells #[.int .i64 r.t.ser, .int .i64 r.t.kind, .int .i64 r.t.frm, .int .i64 r.t.till, .int .i64 r.t.cls, .int .i64 r.t.card, .int .i64 r.t.seat, .int .i64 r.t.day, .int .i64 r.t.days, .int .i64 r.t.uses, .int .i64 r.t.epoch, .int .i64 r.key, .int .i64 r.left, .int .i64 r.inn, .int .i64 r.ver] 28) := ⟨_, rfl⟩
  rw [← hw]
  have hx : RBox w1 w.heap.size r := by rw [hw]; exact RBox.new w r
  have hb : Below w.heap.size w w1 := by rw [hw]; exact below_lit w _ _
  replace HA := Lib.hid (HA.out.next hb)
  replace HBL := Lib.hid (HBL.out.trans (hb.mono HBL.out.size))
  have X1 := Lib.hid hx
  clear hx hb hw
  obtain ⟨B1, hB⟩ : ∃ B, B = w.heap.size := ⟨_, rfl⟩
  rw [← hB] at X1 ⊢
  clear hB
  refine (refis_named l n HN.out false H1.out A c w1 HA.out hn3).mono ?_
  rintro e w2 ⟨rfl, hb⟩
  replace HA := Lib.hid (HA.out.next hb)
  replace X1 := Lib.hid (X1.out.next hb)
  replace HBL := Lib.hid (HBL.out.trans (hb.mono HBL.out.size))
  clear hb
  go_wp2
  go_ret2
  exact ⟨none, 0, rfl, bs_nil _ _, HBL.out⟩
set_option maxRecDepth 100000 in
set_option maxHeartbeats 1600000 in
theorem renc_b (l : List K) (n : Nat) (hn : n = l.length) (hn3 : n ≤ 9223372036854775807) (A : Option Addr) (c : Nat) (r : Rg) (hin : InR r) (E : Int) (p : List Nat) (hE : encX l r = (E, p)) (w : World) (hA : Ks w w.heap.size A l) (h1 : isR l = true) (h2 : (lputX r).1 ≠ 0) : Calls Tryz.prog 11 #[.slice A n c, .agg #[.int .i64 r.t.ser, .int .i64 r.t.kind, .int .i64 r.t.frm, .int .i64 r.t.till, .int .i64 r.t.cls, .int .i64 r.t.card, .int .i64 r.t.seat, .int .i64 r.t.day, .int .i64 r.t.days, .int .i64 r.t.uses, .int .i64 r.t.epoch, .int .i64 r.key, .int .i64 r.left, .int .i64 r.inn, .int .i64 r.ver]] w fun e w' => ∃ A' c', e = .returned (.tuple #[.slice A' (p.length : Nat) c', .int .i64 E]) ∧ Bs w' w'.heap.size p A' c' ∧ Below w.heap.size w w' := by
  have h1' : ¬ isR l = false := by rw [h1]; decide
  obtain ⟨G, P, hP⟩ : ∃ G P, lputX r = (G, P) := ⟨_, _, rfl⟩
  have hG : G ≠ 0 := by rw [hP] at h2; exact h2
  obtain ⟨rfl, rfl⟩ : E = G ∧ p = [] := by rw [encX, if_neg h1', if_pos h2, hP] at hE; exact ⟨(Prod.mk.inj hE).1.symm, (Prod.mk.inj hE).2.symm⟩
  have s1 : (E == 0) = false := by rw [beq_eq_false_iff_ne]; exact hG
  have s2 : (E != 0) = true := by rw [bne_iff_ne]; exact hG
  have H1 := Lib.hid h1
  have HP := Lib.hid hP
  clear hE h1 h2 h1' hG hP
  have HN := Lib.hid hn
  have HA := Lib.hid hA
  have HI := Lib.hid hin
  clear hn hA hin
  have HBL := Lib.hid (Below.refl w.heap.size w)
  go_enter Tryz.func11, Tryz.ntmps11
  go_wp2_with fail
  obtain ⟨w1, hw⟩ : ∃ w1, w1 = w.alloc (.cells #[.int .i64 r.t.ser, .int .i64 r.t.kind, .int .i64 r.t.frm, .int .i64 r.t.till, .int .i64 r.t.cls, .int .i64 r.t.card, .int .i64 r.t.seat, .int .i64 r.t.day, .int .i64 r.t.days, .int .i64 r.t.uses, .int .i64 r.t.epoch, .int .i64 r.key, .int .i64 r.left, .int .i64 r.inn, .int .i64 r.ver] 28) := ⟨_, rfl⟩
  rw [← hw]
  have hx : RBox w1 w.heap.size r := by rw [hw]; exact RBox.new w r
  have hb : Below w.heap.size w w1 := by rw [hw]; exact below_lit w _ _
  replace HA := Lib.hid (HA.out.next hb)
  replace HBL := Lib.hid (HBL.out.trans (hb.mono HBL.out.size))
  have X1 := Lib.hid hx
  clear hx hb hw
  obtain ⟨B1, hB⟩ : ∃ B, B = w.heap.size := ⟨_, rfl⟩
  rw [← hB] at X1 ⊢
  clear hB
  refine (refis_named l n HN.out true H1.out A c w1 HA.out hn3).mono ?_
  rintro e w2 ⟨rfl, hb⟩
  replace HA := Lib.hid (HA.out.next hb)
  replace X1 := Lib.hid (X1.out.next hb)
  replace HBL := Lib.hid (HBL.out.trans (hb.mono HBL.out.size))
  clear hb
  obtain ⟨c0, c1, c2, c3, c4, c5, c6, c7, c8, c9, c10, c11, c12, c13, c14⟩ := X1.out.cells
  go_wp2_with fail
  refine (rlput_any r HI.out E P HP.out w2).mono ?_
  rintro e w3 ⟨AP1, cP1, rfl, hs, hb⟩
  clear c0 c1 c2 c3 c4 c5 c6 c7 c8 c9 c10 c11 c12 c13 c14
  replace HA := Lib.hid (HA.out.next hb)
  replace X1 := Lib.hid (X1.out.next hb)
  replace HBL := Lib.hid (HBL.out.trans (hb.mono HBL.out.size))
  have P1 := Lib.hid hs
  clear hb hs
  go_wp2
  go_ret2
  exact ⟨none, 0, rfl, bs_nil _ _, HBL.out⟩
set_option maxRecDepth 100000 in
set_option maxHeartbeats 1600000 in
theorem renc_c (l : List K) (n : Nat) (hn : n = l.length) (hn3 : n ≤ 9223372036854775807) (A : Option Addr) (c : Nat) (r : Rg) (hin : InR r) (E : Int) (p : List Nat) (hE : encX l r = (E, p)) (w : World) (hA : Ks w w.heap.size A l) (h1 : isR l = true) (h2 : (lputX r).1 = 0) (h3 : findE l r.key ≠ 0) : Calls Tryz.prog 11 #[.slice A n c, .agg #[.int .i64 r.t.ser, .int .i64 r.t.kind, .int .i64 r.t.frm, .int .i64 r.t.till, .int .i64 r.t.cls, .int .i64 r.t.card, .int .i64 r.t.seat, .int .i64 r.t.day, .int .i64 r.t.days, .int .i64 r.t.uses, .int .i64 r.t.epoch, .int .i64 r.key, .int .i64 r.left, .int .i64 r.inn, .int .i64 r.ver]] w fun e w' => ∃ A' c', e = .returned (.tuple #[.slice A' (p.length : Nat) c', .int .i64 E]) ∧ Bs w' w'.heap.size p A' c' ∧ Below w.heap.size w w' := by
  have h1' : ¬ isR l = false := by rw [h1]; decide
  obtain ⟨P, hP⟩ : ∃ P, lputX r = (0, P) := ⟨(lputX r).2, by rw [← h2]⟩
  obtain ⟨rfl, rfl⟩ : E = findE l r.key ∧ p = [] := by rw [encX, if_neg h1', if_neg (by omega), if_pos h3] at hE; exact ⟨(Prod.mk.inj hE).1.symm, (Prod.mk.inj hE).2.symm⟩
  have hPL : P.length ≤ 40 := slput_len hP
  obtain ⟨F, hF⟩ : ∃ F, findE l r.key = F := ⟨_, rfl⟩
  rw [hF] at h3 ⊢
  have s1 : (F == 0) = false := by rw [beq_eq_false_iff_ne]; exact h3
  have s2 : (F != 0) = true := by rw [bne_iff_ne]; exact h3
  have H1 := Lib.hid h1
  have H3 := Lib.hid h3
  have HP := Lib.hid hP
  have HF := Lib.hid hF
  have HPL := Lib.hid hPL
  clear hE h1 h2 h1' h3 hP hF hPL
  have HN := Lib.hid hn
  have HA := Lib.hid hA
  have HI := Lib.hid hin
  clear hn hA hin
  have HBL := Lib.hid (Below.refl w.heap.size w)
  go_enter Tryz.func11, Tryz.ntmps11
  go_wp2_with fail
  obtain ⟨w1, hw⟩ : ∃ w1, w1 = w.alloc (.cells #[.int .i64 r.t.ser, .int .i64 r.t.kind, .int .i64 r.t.frm, .int .i64 r.t.till, .int .i64 r.t.cls, .int .i64 r.t.card, .int .i64 r.t.seat, .int .i64 r.t.day, .int .i64 r.t.days, .int .i64 r.t.uses, .int .i64 r.t.epoch, .int .i64 r.key, .int .i64 r.left, .int .i64 r.inn, .int .i64 r.ver] 28) := ⟨_, rfl⟩
  rw [← hw]
  have hx : RBox w1 w.heap.size r := by rw [hw]; exact RBox.new w r
  have hb : Below w.heap.size w w1 := by rw [hw]; exact below_lit w _ _
  replace HA := Lib.hid (HA.out.next hb)
  replace HBL := Lib.hid (HBL.out.trans (hb.mono HBL.out.size))
  have X1 := Lib.hid hx
  clear hx hb hw
  obtain ⟨B1, hB⟩ : ∃ B, B = w.heap.size := ⟨_, rfl⟩
  rw [← hB] at X1 ⊢
  clear hB
  refine (refis_named l n HN.out true H1.out A c w1 HA.out hn3).mono ?_
  rintro e w2 ⟨rfl, hb⟩
  replace HA := Lib.hid (HA.out.next hb)
  replace X1 := Lib.hid (X1.out.next hb)
  replace HBL := Lib.hid (HBL.out.trans (hb.mono HBL.out.size))
  clear hb
  obtain ⟨c0, c1, c2, c3, c4, c5, c6, c7, c8, c9, c10, c11, c12, c13, c14⟩ := X1.out.cells
  go_wp2_with fail
  refine (rlput_any r HI.out 0 P HP.out w2).mono ?_
  rintro e w3 ⟨AP1, cP1, rfl, hs, hb⟩
  clear c0 c1 c2 c3 c4 c5 c6 c7 c8 c9 c10 c11 c12 c13 c14
  replace HA := Lib.hid (HA.out.next hb)
  replace X1 := Lib.hid (X1.out.next hb)
  replace HBL := Lib.hid (HBL.out.trans (hb.mono HBL.out.size))
  have P1 := Lib.hid hs
  clear hb hs
  obtain ⟨c0, c1, c2, c3, c4, c5, c6, c7, c8, c9, c10, c11, c12, c13, c14⟩ := X1.out.cells
  obtain ⟨q, hq⟩ : ∃ q, q = findK l r.key := ⟨_, rfl⟩
  have HQ := Lib.hid hq
  clear hq
  go_wp2_with fail
  refine (reffind_any l n HN.out r.key A c w3 HA.out hn3 q F HQ.out HF.out.symm).mono ?_
  rintro e w4 ⟨S, cc, rfl, hs, hb⟩
  clear c0 c1 c2 c3 c4 c5 c6 c7 c8 c9 c10 c11 c12 c13 c14
  replace HA := Lib.hid (HA.out.next hb)
  replace X1 := Lib.hid (X1.out.next hb)
  replace P1 := Lib.hid (P1.out.next hb)
  replace HBL := Lib.hid (HBL.out.trans (hb.mono HBL.out.size))
  have FS := Lib.hid hs
  clear hb hs
  go_wp2_with fail
  obtain ⟨w5, hw⟩ : ∃ w5, w5 = w4.alloc (.cells #[.int .i64 q.id, .slice S q.sec.length cc, .int .i64 q.frm, .int .i64 q.til] 46) := ⟨_, rfl⟩
  rw [← hw]
  have hx : Box w5 w4.heap.size ⟨q, S, cc⟩ := by rw [hw]; exact (box_lit w4 ⟨q, S, cc⟩ FS.out).1
  have hb : Below w4.heap.size w4 w5 := by rw [hw]; exact below_lit w4 _ _
  replace HA := Lib.hid (HA.out.next hb)
  replace X1 := Lib.hid (X1.out.next hb)
  replace P1 := Lib.hid (P1.out.next hb)
  replace FS := Lib.hid (FS.out.next hb)
  replace HBL := Lib.hid (HBL.out.trans (hb.mono HBL.out.size))
  have HX := Lib.hid hx
  clear hx hb hw
  obtain ⟨X, hB⟩ : ∃ B, B = w4.heap.size := ⟨_, rfl⟩
  rw [← hB] at HX ⊢
  clear hB
  go_wp2
  go_ret2
  exact ⟨none, 0, rfl, bs_nil _ _, HBL.out⟩
set_option maxRecDepth 100000 in
set_option maxHeartbeats 1600000 in
theorem renc_d (l : List K) (n : Nat) (hn : n = l.length) (hn3 : n ≤ 9223372036854775807) (A : Option Addr) (c : Nat) (r : Rg) (hin : InR r) (E : Int) (p : List Nat) (hE : encX l r = (E, p)) (w : World) (hA : Ks w w.heap.size A l) (h1 : isR l = true) (h2 : (lputX r).1 = 0) (h3 : findE l r.key = 0) : Calls Tryz.prog 11 #[.slice A n c, .agg #[.int .i64 r.t.ser, .int .i64 r.t.kind, .int .i64 r.t.frm, .int .i64 r.t.till, .int .i64 r.t.cls, .int .i64 r.t.card, .int .i64 r.t.seat, .int .i64 r.t.day, .int .i64 r.t.days, .int .i64 r.t.uses, .int .i64 r.t.epoch, .int .i64 r.key, .int .i64 r.left, .int .i64 r.inn, .int .i64 r.ver]] w fun e w' => ∃ A' c', e = .returned (.tuple #[.slice A' (p.length : Nat) c', .int .i64 E]) ∧ Bs w' w'.heap.size p A' c' ∧ Below w.heap.size w w' := by
  have h1' : ¬ isR l = false := by rw [h1]; decide
  obtain ⟨P, hP⟩ : ∃ P, lputX r = (0, P) := ⟨(lputX r).2, by rw [← h2]⟩
  have hPL : P.length ≤ 40 := slput_len hP
  obtain ⟨T, hTg⟩ : ∃ T, tagS (findK l r.key).sec P = T := ⟨_, rfl⟩
  obtain ⟨L, hL⟩ : ∃ L, P ++ T = L := ⟨_, rfl⟩
  have hX : putE L = E ∧ putL L = p := by
    rw [encX, if_neg h1', if_neg (by omega), if_neg (by omega), encD, hP, hTg, hL] at hE
    exact ⟨(Prod.mk.inj hE).1, (Prod.mk.inj hE).2⟩
  have hTL : T.length = 10 := by rw [← hTg]; exact tagS_len _ _
  have hTT : ∀ x ∈ T, x < 256 := by rw [← hTg]; exact tagS_lt _ _
  have hPT : ∀ x ∈ P, x < 256 := lput_lt hP
  obtain ⟨k, hk⟩ : ∃ k, k = L.length := ⟨_, rfl⟩
  have hk2 : 0 < k ∧ k ≤ 50 := by rw [hk, ← hL, List.length_append]; omega
  have H1 := Lib.hid h1
  have H3 := Lib.hid h3
  have HP := Lib.hid hP
  have HPL := Lib.hid hPL
  have HTG := Lib.hid hTg
  have HL := Lib.hid hL
  have HX1 := Lib.hid hX.1
  have HX2 := Lib.hid hX.2
  have HTL := Lib.hid hTL
  have HTT := Lib.hid hTT
  have HK := Lib.hid hk
  have HK2 := Lib.hid hk2
  have H64 := Lib.hid (find_sec h3)
  have HLT := Lib.hid (show ∀ x ∈ L, x < 256 by
    rw [← hL]
    intro x hx
    rcases List.mem_append.1 hx with h | h
    · exact hPT x h
    · exact hTT x h)
  obtain ⟨i0, hi, hz0, hz1, hz2⟩ := info_parts infoU8
  have h64 : 0 + P.length ≤ maxLen := by unfold maxLen; omega
  have h68 : 0 + P.length + 10 ≤ maxLen := by unfold maxLen; omega
  have h65 : P.length ≤ 40 := hPL
  clear hPT hE h1 h2 h1' h3 hP hPL hTg hL hX hTL hTT hk hk2
  have HN := Lib.hid hn
  have HA := Lib.hid hA
  have HI := Lib.hid hin
  clear hn hA hin
  have HBL := Lib.hid (Below.refl w.heap.size w)
  go_enter Tryz.func11, Tryz.ntmps11
  go_wp2_with fail
  obtain ⟨w1, hw⟩ : ∃ w1, w1 = w.alloc (.cells #[.int .i64 r.t.ser, .int .i64 r.t.kind, .int .i64 r.t.frm, .int .i64 r.t.till, .int .i64 r.t.cls, .int .i64 r.t.card, .int .i64 r.t.seat, .int .i64 r.t.day, .int .i64 r.t.days, .int .i64 r.t.uses, .int .i64 r.t.epoch, .int .i64 r.key, .int .i64 r.left, .int .i64 r.inn, .int .i64 r.ver] 28) := ⟨_, rfl⟩
  rw [← hw]
  have hx : RBox w1 w.heap.size r := by rw [hw]; exact RBox.new w r
  have hb : Below w.heap.size w w1 := by rw [hw]; exact below_lit w _ _
  replace HA := Lib.hid (HA.out.next hb)
  replace HBL := Lib.hid (HBL.out.trans (hb.mono HBL.out.size))
  have X1 := Lib.hid hx
  clear hx hb hw
  obtain ⟨B1, hB⟩ : ∃ B, B = w.heap.size := ⟨_, rfl⟩
  rw [← hB] at X1 ⊢
  clear hB
  refine (refis_named l n HN.out true H1.out A c w1 HA.out hn3).mono ?_
  rintro e w2 ⟨rfl, hb⟩
  replace HA := Lib.hid (HA.out.next hb)
  replace X1 := Lib.hid (X1.out.next hb)
  replace HBL := Lib.hid (HBL.out.trans (hb.mono HBL.out.size))
  clear hb
  obtain ⟨c0, c1, c2, c3, c4, c5, c6, c7, c8, c9, c10, c11, c12, c13, c14⟩ := X1.out.cells
  go_wp2_with fail
  refine (rlput_any r HI.out 0 P HP.out w2).mono ?_
  rintro e w3 ⟨AP1, cP1, rfl, hs, hb⟩
  clear c0 c1 c2 c3 c4 c5 c6 c7 c8 c9 c10 c11 c12 c13 c14
  replace HA := Lib.hid (HA.out.next hb)
  replace X1 := Lib.hid (X1.out.next hb)
  replace HBL := Lib.hid (HBL.out.trans (hb.mono HBL.out.size))
  have P1 := Lib.hid hs
  clear hb hs
  obtain ⟨c0, c1, c2, c3, c4, c5, c6, c7, c8, c9, c10, c11, c12, c13, c14⟩ := X1.out.cells
  obtain ⟨q, hq⟩ : ∃ q, q = findK l r.key := ⟨_, rfl⟩
  have HQ := Lib.hid hq
  clear hq
  go_wp2_with fail
  refine (reffind_any l n HN.out r.key A c w3 HA.out hn3 q 0 HQ.out H3.out.symm).mono ?_
  rintro e w4 ⟨S, cc, rfl, hs, hb⟩
  clear c0 c1 c2 c3 c4 c5 c6 c7 c8 c9 c10 c11 c12 c13 c14
  replace HA := Lib.hid (HA.out.next hb)
  replace X1 := Lib.hid (X1.out.next hb)
  replace P1 := Lib.hid (P1.out.next hb)
  replace HBL := Lib.hid (HBL.out.trans (hb.mono HBL.out.size))
  have FS := Lib.hid hs
  clear hb hs
  go_wp2_with (at_builtin; go_loud (obtain ⟨w50, hw⟩ : ∃ w50, w50 = w4.alloc (.cells #[.int .i64 q.id, .slice S q.sec.length cc, .int .i64 q.frm, .int .i64 q.til] 46) := ⟨_, rfl⟩; have hs5 : w4.heap.size + 1 = w50.heap.size := (by rw [hw]; simp); rw [← hw, hs5]; have HX := Lib.hid (show Box w50 w4.heap.size ⟨q, S, cc⟩ by rw [hw]; exact (box_lit w4 ⟨q, S, cc⟩ FS.out).1); have hb0 : Below w4.heap.size w4 w50 := (by rw [hw]; exact below_lit w4 _ _); replace HA := Lib.hid (HA.out.next hb0); replace X1 := Lib.hid (X1.out.next hb0); replace P1 := Lib.hid (P1.out.next hb0); replace FS := Lib.hid (FS.out.next hb0); replace HBL := Lib.hid (HBL.out.trans (hb0.mono HBL.out.size)); clear hw hs5 hb0; have HB0 := Lib.hid (below_lit w50 #[] 5); have HOWN := Lib.hid (show (w50.alloc (.cells #[] 5)).ownsRow w50.heap.size 5 1 (.slice (some ⟨w50.heap.size, 0, none⟩) 0 0) 0 [] from World.ownsRow_lit w50 #[] 0 (Nat.le_refl _) (by decide) rfl); have HPW := Lib.hid (P1.out.next HB0.out); have hbs := HB0.out.size; refine wpList_append_rd _ rfl (.tmp 35) (.tmp 36) 30 rfl w50.heap.size 5 i0 (.int .u8 0) 1 Tryz.underlying30 hi hz0 hz1 hz2 rfl (.slice (some ⟨w50.heap.size, 0, none⟩) 0 0) 0 [] rfl HOWN.out _ AP1 P.length cP1 (U8 P) rfl HPW.out.rd (by simp [U8]) HPW.out.nil (U8_one P) h64 (by omega) hbs ?_; intro v6 w60 hown6 hg6; have hb : Below w50.heap.size w50 w60 := HB0.out.grown hg6 HB0.out.size (fun p hp => by cases hp; exact Nat.le_refl _); replace HA := Lib.hid (HA.out.next hb); replace X1 := Lib.hid (X1.out.next hb); replace P1 := Lib.hid (P1.out.next hb); replace FS := Lib.hid (FS.out.next hb); replace HX := Lib.hid (HX.out.next hb); have HBK := Lib.hid (show w.heap.size ≤ w50.heap.size ∧ w50.heap.size ≤ w60.heap.size from ⟨HBL.out.size, hb.size⟩); replace HBL := Lib.hid (HBL.out.trans (hb.mono HBL.out.size)); have HO6 := Lib.hid hown6; clear hown6 hg6 hb HB0 HOWN HPW hbs; have k1 := cell_of_row _ _ 1 _ _ _ HX.out.1))
  refine (rtag_any q.sec P q.sec.length P.length rfl rfl S AP1 cc cP1 w60 FS.out P1.out (by have := H64.out; rw [← HQ.out] at this; omega) (by omega) T (by rw [HQ.out]; exact HTG.out)).mono ?_
  rintro e w70 ⟨g, cap, rfl, hs, hb⟩
  clear k1
  have HO7 := Lib.hid (own_below HO6.out hb)
  replace HBK := Lib.hid (show w.heap.size ≤ w50.heap.size ∧ w50.heap.size ≤ w70.heap.size from ⟨HBK.out.1, Nat.le_trans HBK.out.2 hb.size⟩)
  replace HA := Lib.hid (HA.out.next hb)
  replace X1 := Lib.hid (X1.out.next hb)
  replace P1 := Lib.hid (P1.out.next hb)
  replace FS := Lib.hid (FS.out.next hb)
  replace HX := Lib.hid (HX.out.next hb)
  replace HBL := Lib.hid (HBL.out.trans (hb.mono HBL.out.size))
  have G := Lib.hid hs
  clear hb hs HO6
  have H66 := Lib.hid (fun p (hp : v6.ownBlock = some p) => own_ge HO7.out hp)
  go_wp2_with (at_builtin; go_loud (refine wpList_append_rd _ rfl (.tmp 39) (.tmp 43) 30 rfl w50.heap.size 5 i0 (.int .u8 0) 1 Tryz.underlying30 hi hz0 hz1 hz2 rfl v6 (0 + P.length) ([] ++ U8 P) rfl HO7.out _ _ 10 cap (U8 T) rfl G.out (by simp [U8, HTL.out]) (fun h => by cases h) (U8_one T) h68 (by omega) HBK.out.2 ?_; intro v8 w80 hown8 hg8; have HB8 := Lib.hid (HBL.out.grown hg8 HBL.out.size (fun p hp => Nat.le_trans HBK.out.1 (H66.out p hp))); rw [List.nil_append, U8_append9, HL.out] at hown8; obtain ⟨AL, cL, rfl, hs8⟩ := bs_of_own hown8 HLT.out; have HS8 := Lib.hid hs8; clear hown8 hg8 hs8))
  refine (refput11_any L (P.length + 10) (by rw [← HL.out, List.length_append, HTL.out]) (by omega) E HX1.out p HX2.out AL cL w80 HS8.out).mono ?_
  rintro e w90 ⟨AO, cO, rfl, hs, hb⟩
  have HS9 := Lib.hid hs
  have HB9 := Lib.hid (HB8.out.trans (hb.mono HB8.out.size))
  clear hs hb
  go_wp2
  go_ret2
  exact ⟨_, _, rfl, HS9.out, HB9.out⟩
theorem renc_any (l : List K) (n : Nat) (hn : n = l.length) (hn3 : n ≤ 9223372036854775807) (A : Option Addr) (c : Nat) (r : Rg) (hin : InR r) (E : Int) (p : List Nat) (hE : encX l r = (E, p)) (w : World) (hA : Ks w w.heap.size A l) : Calls Tryz.prog 11 #[.slice A n c, .agg #[.int .i64 r.t.ser, .int .i64 r.t.kind, .int .i64 r.t.frm, .int .i64 r.t.till, .int .i64 r.t.cls, .int .i64 r.t.card, .int .i64 r.t.seat, .int .i64 r.t.day, .int .i64 r.t.days, .int .i64 r.t.uses, .int .i64 r.t.epoch, .int .i64 r.key, .int .i64 r.left, .int .i64 r.inn, .int .i64 r.ver]] w fun e w' => ∃ A' c', e = .returned (.tuple #[.slice A' (p.length : Nat) c', .int .i64 E]) ∧ Bs w' w'.heap.size p A' c' ∧ Below w.heap.size w w' := by
  cases h1 : isR l
  · exact renc_a l n hn hn3 A c r hin E p hE w hA h1
  · by_cases h2 : (lputX r).1 = 0
    · by_cases h3 : findE l r.key = 0
      · exact renc_d l n hn hn3 A c r hin E p hE w hA h1 h2 h3
      · exact renc_c l n hn hn3 A c r hin E p hE w hA h1 h2 h3
    · exact renc_b l n hn hn3 A c r hin E p hE w hA h1 h2
end Go.Proofs.YtpniolinndlepaaGreatDoor
