/-
  Contract for the reference's Decode. Conditions: the slices read as keys and bytes, at most 1000 bytes.
-/
import Derived.Test.YtpniolinndlepaaGreatDoorStripeRefTag
import Derived.Test.YtpniolinndlepaaGreatDoorStripePEnc
import Derived.Test.YtpniolinndlepaaGreatDoorStripePRead
import Derived.Test.YtpniolinndlepaaGreatDoorLayRefGet
import Derived.Test.YtpniolinndlepaaGreatDoorSwipeRef
import Derived.Test.YtpniolinndlepaaGreatDoorRingPFA
namespace Go.Proofs.YtpniolinndlepaaGreatDoor
set_option linter.unusedVariables false
open Go.ChangeShapes Go.WideShapes Go.ChangeAt Go.RowKit

set_option maxRecDepth 100000 in
set_option maxHeartbeats 1600000 in
theorem rdec_a (l : List K) (n : Nat) (hn : n = l.length) (hn3 : n ≤ 9223372036854775807) (b : List Nat) (m : Nat) (hm : m = b.length) (hm2 : m ≤ 1000) (A : Option Addr) (c : Nat) (B : Option Addr) (d : Nat) (E : Int) (r : Rg) (hE : decX l b = (E, r)) (w : World) (hA : Ks w w.heap.size A l) (hB : Bs w w.heap.size b B d) (h1 : isR l = false) : Calls Tryz.prog 15 #[.slice A n c, .slice B m d] w fun e w' => e = .returned (.tuple #[.agg #[.int .i64 r.t.ser, .int .i64 r.t.kind, .int .i64 r.t.frm, .int .i64 r.t.till, .int .i64 r.t.cls, .int .i64 r.t.card, .int .i64 r.t.seat, .int .i64 r.t.day, .int .i64 r.t.days, .int .i64 r.t.uses, .int .i64 r.t.epoch, .int .i64 r.key, .int .i64 r.left, .int .i64 r.inn, .int .i64 r.ver], .int .i64 E]) ∧ Below w.heap.size w w' := by
  obtain ⟨rfl, rfl⟩ : E = 1 ∧ r = zeroR := by rw [decX, if_pos h1] at hE; exact ⟨(Prod.mk.inj hE).1.symm, (Prod.mk.inj hE).2.symm⟩
  have H1 := Lib.hid h1
  clear hE h1
  have HN := Lib.hid hn
  have HM := Lib.hid hm
  have HA := Lib.hid hA
  have HB := Lib.hid hB
  clear hn hm hA hB
  have HBL := Lib.hid (Below.refl w.heap.size w)
  go_enter Tryz.func15, Tryz.ntmps15
  go_wp2_with fail
  obtain ⟨w1, hw⟩ : ∃ w1, w1 = w.alloc (.cells #[.int .i64 0, .int .i64 0, .int .i64 0, .int .i64 0, .int .i64 0, .int .i64 0, .int .i64 0, .int .i64 0, .int .i64 0, .int .i64 0, .int .i64 0, .int .i64 0, .int .i64 0, .int .i64 0, .int .i64 0] 28) := ⟨_, rfl⟩
  rw [← hw]
  have hx : RBox w1 w.heap.size zeroR := by rw [hw]; exact RBox.new w zeroR
  have hb : Below w.heap.size w w1 := by rw [hw]; exact below_lit w _ _
  replace HA := Lib.hid (HA.out.next hb)
  replace HB := Lib.hid (HB.out.next hb)
  replace HBL := Lib.hid (HBL.out.trans (hb.mono HBL.out.size))
  have XD := Lib.hid hx
  clear hx hb hw
  refine (refis_named l n HN.out false H1.out A c w1 HA.out hn3).mono ?_
  rintro e w2 ⟨rfl, hb⟩
  replace HA := Lib.hid (HA.out.next hb)
  replace HB := Lib.hid (HB.out.next hb)
  replace XD := Lib.hid (XD.out.next hb)
  replace HBL := Lib.hid (HBL.out.trans (hb.mono HBL.out.size))
  clear hb
  go_wp2_with ((with_reducible refine at_store 4 ?_); refine wpList_store_named (o := ⟨none, .store 28 (.tmp 4) (.tmp 17), _, _, _, _⟩) rfl 28 (.tmp 4) (.tmp 17) rfl (w.heap.size) #[.int .i64 0, .int .i64 0, .int .i64 0, .int .i64 0, .int .i64 0, .int .i64 0, .int .i64 0, .int .i64 0, .int .i64 0, .int .i64 0, .int .i64 0, .int .i64 0, .int .i64 0, .int .i64 0, .int .i64 0] rfl rfl 28 #[.int .i64 0, .int .i64 0, .int .i64 0, .int .i64 0, .int .i64 0, .int .i64 0, .int .i64 0, .int .i64 0, .int .i64 0, .int .i64 0, .int .i64 0, .int .i64 0, .int .i64 0, .int .i64 0, .int .i64 0] XD.out infoRd rfl (rg_one _ _ _ _ _ _ _ _ _ _ _ _ _ _ _) ?_)
  intro w90 hw90
  go_wp2
  refine bodyPost_ret (results_row_tmp' Tryz.results15 _ w90 (w.heap.size) 28 #[.int .i64 0, .int .i64 0, .int .i64 0, .int .i64 0, .int .i64 0, .int .i64 0, .int .i64 0, .int .i64 0, .int .i64 0, .int .i64 0, .int .i64 0, .int .i64 0, .int .i64 0, .int .i64 0, .int .i64 0] (0, 0) _ rfl (by rw [hw90.out]; exact setRow_heap _ _ _ _ _ _ XD.out) Tryz.underlying28 rfl infoRd) rfl ⟨rfl, ?_⟩
  rw [hw90.out]
  exact below_setRow HBL.out (Nat.le_refl _) _
set_option maxRecDepth 100000 in
set_option maxHeartbeats 1600000 in
theorem rdec_b (l : List K) (n : Nat) (hn : n = l.length) (hn3 : n ≤ 9223372036854775807) (b : List Nat) (m : Nat) (hm : m = b.length) (hm2 : m ≤ 1000) (A : Option Addr) (c : Nat) (B : Option Addr) (d : Nat) (E : Int) (r : Rg) (hE : decX l b = (E, r)) (w : World) (hA : Ks w w.heap.size A l) (hB : Bs w w.heap.size b B d) (h1 : isR l = true) (h2 : readE b ≠ 0) : Calls Tryz.prog 15 #[.slice A n c, .slice B m d] w fun e w' => e = .returned (.tuple #[.agg #[.int .i64 r.t.ser, .int .i64 r.t.kind, .int .i64 r.t.frm, .int .i64 r.t.till, .int .i64 r.t.cls, .int .i64 r.t.card, .int .i64 r.t.seat, .int .i64 r.t.day, .int .i64 r.t.days, .int .i64 r.t.uses, .int .i64 r.t.epoch, .int .i64 r.key, .int .i64 r.left, .int .i64 r.inn, .int .i64 r.ver], .int .i64 E]) ∧ Below w.heap.size w w' := by
  have h1' : ¬ isR l = false := by rw [h1]; decide
  obtain ⟨o, hO⟩ : ∃ o, readO b = o := ⟨_, rfl⟩
  obtain ⟨p, hp⟩ : ∃ p, readL b = p := ⟨_, rfl⟩
  obtain ⟨G, hG⟩ : ∃ G, readE b = G := ⟨_, rfl⟩
  obtain ⟨rfl, rfl⟩ : E = readE b ∧ r = zeroR := by rw [decX, if_neg h1', if_pos h2] at hE; exact ⟨(Prod.mk.inj hE).1.symm, (Prod.mk.inj hE).2.symm⟩
  rw [hG] at h2 ⊢
  have s1 : (G == 0) = false := by rw [beq_eq_false_iff_ne]; exact h2
  have s2 : (G != 0) = true := by rw [bne_iff_ne]; exact h2
  have H1 := Lib.hid h1
  have HG := Lib.hid hG
  have HO := Lib.hid hO
  have HP := Lib.hid hp
  clear hE h1 h1' h2 hG hO hp
  have HN := Lib.hid hn
  have HM := Lib.hid hm
  have HA := Lib.hid hA
  have HB := Lib.hid hB
  clear hn hm hA hB
  have HBL := Lib.hid (Below.refl w.heap.size w)
  go_enter Tryz.func15, Tryz.ntmps15
  go_wp2_with fail
  obtain ⟨w1, hw⟩ : ∃ w1, w1 = w.alloc (.cells #[.int .i64 0, .int .i64 0, .int .i64 0, .int .i64 0, .int .i64 0, .int .i64 0, .int .i64 0, .int .i64 0, .int .i64 0, .int .i64 0, .int .i64 0, .int .i64 0, .int .i64 0, .int .i64 0, .int .i64 0] 28) := ⟨_, rfl⟩
  rw [← hw]
  have hx : RBox w1 w.heap.size zeroR := by rw [hw]; exact RBox.new w zeroR
  have hb : Below w.heap.size w w1 := by rw [hw]; exact below_lit w _ _
  replace HA := Lib.hid (HA.out.next hb)
  replace HB := Lib.hid (HB.out.next hb)
  replace HBL := Lib.hid (HBL.out.trans (hb.mono HBL.out.size))
  have XD := Lib.hid hx
  clear hx hb hw
  refine (refis_named l n HN.out true H1.out A c w1 HA.out hn3).mono ?_
  rintro e w2 ⟨rfl, hb⟩
  replace HA := Lib.hid (HA.out.next hb)
  replace HB := Lib.hid (HB.out.next hb)
  replace XD := Lib.hid (XD.out.next hb)
  replace HBL := Lib.hid (HBL.out.trans (hb.mono HBL.out.size))
  clear hb
  go_wp2_with fail
  refine (refread_any b m HM.out hm2 G HG.out o HO.out p HP.out B d w2 HB.out).mono ?_
  rintro e w3 ⟨AR1, cR1, rfl, hs, hb⟩
  replace HA := Lib.hid (HA.out.next hb)
  replace HB := Lib.hid (HB.out.next hb)
  replace XD := Lib.hid (XD.out.next hb)
  replace HBL := Lib.hid (HBL.out.trans (hb.mono HBL.out.size))
  have R1 := Lib.hid hs
  clear hb hs
  go_wp2_with ((with_reducible refine at_store 4 ?_); refine wpList_store_named (o := ⟨none, .store 28 (.tmp 4) (.tmp 26), _, _, _, _⟩) rfl 28 (.tmp 4) (.tmp 26) rfl (w.heap.size) #[.int .i64 0, .int .i64 0, .int .i64 0, .int .i64 0, .int .i64 0, .int .i64 0, .int .i64 0, .int .i64 0, .int .i64 0, .int .i64 0, .int .i64 0, .int .i64 0, .int .i64 0, .int .i64 0, .int .i64 0] rfl rfl 28 #[.int .i64 0, .int .i64 0, .int .i64 0, .int .i64 0, .int .i64 0, .int .i64 0, .int .i64 0, .int .i64 0, .int .i64 0, .int .i64 0, .int .i64 0, .int .i64 0, .int .i64 0, .int .i64 0, .int .i64 0] XD.out infoRd rfl (rg_one _ _ _ _ _ _ _ _ _ _ _ _ _ _ _) ?_)
  intro w90 hw90
  go_wp2
  refine bodyPost_ret (results_row_tmp' Tryz.results15 _ w90 (w.heap.size) 28 #[.int .i64 0, .int .i64 0, .int .i64 0, .int .i64 0, .int .i64 0, .int .i64 0, .int .i64 0, .int .i64 0, .int .i64 0, .int .i64 0, .int .i64 0, .int .i64 0, .int .i64 0, .int .i64 0, .int .i64 0] (0, 0) _ rfl (by rw [hw90.out]; exact setRow_heap _ _ _ _ _ _ XD.out) Tryz.underlying28 rfl infoRd) rfl ⟨rfl, ?_⟩
  rw [hw90.out]
  exact below_setRow HBL.out (Nat.le_refl _) _
set_option maxRecDepth 100000 in
set_option maxHeartbeats 1600000 in
theorem rdec_c (l : List K) (n : Nat) (hn : n = l.length) (hn3 : n ≤ 9223372036854775807) (b : List Nat) (m : Nat) (hm : m = b.length) (hm2 : m ≤ 1000) (A : Option Addr) (c : Nat) (B : Option Addr) (d : Nat) (E : Int) (r : Rg) (hE : decX l b = (E, r)) (w : World) (hA : Ks w w.heap.size A l) (hB : Bs w w.heap.size b B d) (h1 : isR l = true) (h2 : readE b = 0) (h3 : (readL b).length < 10) : Calls Tryz.prog 15 #[.slice A n c, .slice B m d] w fun e w' => e = .returned (.tuple #[.agg #[.int .i64 r.t.ser, .int .i64 r.t.kind, .int .i64 r.t.frm, .int .i64 r.t.till, .int .i64 r.t.cls, .int .i64 r.t.card, .int .i64 r.t.seat, .int .i64 r.t.day, .int .i64 r.t.days, .int .i64 r.t.uses, .int .i64 r.t.epoch, .int .i64 r.key, .int .i64 r.left, .int .i64 r.inn, .int .i64 r.ver], .int .i64 E]) ∧ Below w.heap.size w w' := by
  have h1' : ¬ isR l = false := by rw [h1]; decide
  obtain ⟨o, hO⟩ : ∃ o, readO b = o := ⟨_, rfl⟩
  obtain ⟨p, hp⟩ : ∃ p, readL b = p := ⟨_, rfl⟩
  obtain ⟨rfl, rfl⟩ : E = 14 ∧ r = zeroR := by rw [decX, if_neg h1', if_neg (by omega), toldX, if_pos h3] at hE; exact ⟨(Prod.mk.inj hE).1.symm, (Prod.mk.inj hE).2.symm⟩
  rw [hp] at h3
  obtain ⟨k, hk⟩ : ∃ k, p.length = k := ⟨_, rfl⟩
  rw [hk] at h3
  have k1 : (k : Int) < 10 := by omega
  have H1 := Lib.hid h1
  have H2 := Lib.hid h2
  have HO := Lib.hid hO
  have HP := Lib.hid hp
  have HK := Lib.hid hk
  clear hE h1 h1' h2 hO hp hk
  have HN := Lib.hid hn
  have HM := Lib.hid hm
  have HA := Lib.hid hA
  have HB := Lib.hid hB
  clear hn hm hA hB
  have HBL := Lib.hid (Below.refl w.heap.size w)
  go_enter Tryz.func15, Tryz.ntmps15
  go_wp2_with fail
  obtain ⟨w1, hw⟩ : ∃ w1, w1 = w.alloc (.cells #[.int .i64 0, .int .i64 0, .int .i64 0, .int .i64 0, .int .i64 0, .int .i64 0, .int .i64 0, .int .i64 0, .int .i64 0, .int .i64 0, .int .i64 0, .int .i64 0, .int .i64 0, .int .i64 0, .int .i64 0] 28) := ⟨_, rfl⟩
  rw [← hw]
  have hx : RBox w1 w.heap.size zeroR := by rw [hw]; exact RBox.new w zeroR
  have hb : Below w.heap.size w w1 := by rw [hw]; exact below_lit w _ _
  replace HA := Lib.hid (HA.out.next hb)
  replace HB := Lib.hid (HB.out.next hb)
  replace HBL := Lib.hid (HBL.out.trans (hb.mono HBL.out.size))
  have XD := Lib.hid hx
  clear hx hb hw
  refine (refis_named l n HN.out true H1.out A c w1 HA.out hn3).mono ?_
  rintro e w2 ⟨rfl, hb⟩
  replace HA := Lib.hid (HA.out.next hb)
  replace HB := Lib.hid (HB.out.next hb)
  replace XD := Lib.hid (XD.out.next hb)
  replace HBL := Lib.hid (HBL.out.trans (hb.mono HBL.out.size))
  clear hb
  go_wp2_with fail
  refine (refread_any b m HM.out hm2 0 H2.out o HO.out p HP.out B d w2 HB.out).mono ?_
  rintro e w3 ⟨AR1, cR1, rfl, hs, hb⟩
  replace HA := Lib.hid (HA.out.next hb)
  replace HB := Lib.hid (HB.out.next hb)
  replace XD := Lib.hid (XD.out.next hb)
  replace HBL := Lib.hid (HBL.out.trans (hb.mono HBL.out.size))
  have R1 := Lib.hid hs
  clear hb hs
  rw [HK.out]
  go_wp2_with ((with_reducible refine at_store 4 ?_); refine wpList_store_named (o := ⟨none, .store 28 (.tmp 4) (.tmp 33), _, _, _, _⟩) rfl 28 (.tmp 4) (.tmp 33) rfl (w.heap.size) #[.int .i64 0, .int .i64 0, .int .i64 0, .int .i64 0, .int .i64 0, .int .i64 0, .int .i64 0, .int .i64 0, .int .i64 0, .int .i64 0, .int .i64 0, .int .i64 0, .int .i64 0, .int .i64 0, .int .i64 0] rfl rfl 28 #[.int .i64 0, .int .i64 0, .int .i64 0, .int .i64 0, .int .i64 0, .int .i64 0, .int .i64 0, .int .i64 0, .int .i64 0, .int .i64 0, .int .i64 0, .int .i64 0, .int .i64 0, .int .i64 0, .int .i64 0] XD.out infoRd rfl (rg_one _ _ _ _ _ _ _ _ _ _ _ _ _ _ _) ?_)
  intro w90 hw90
  go_wp2
  refine bodyPost_ret (results_row_tmp' Tryz.results15 _ w90 (w.heap.size) 28 #[.int .i64 0, .int .i64 0, .int .i64 0, .int .i64 0, .int .i64 0, .int .i64 0, .int .i64 0, .int .i64 0, .int .i64 0, .int .i64 0, .int .i64 0, .int .i64 0, .int .i64 0, .int .i64 0, .int .i64 0] (0, 0) _ rfl (by rw [hw90.out]; exact setRow_heap _ _ _ _ _ _ XD.out) Tryz.underlying28 rfl infoRd) rfl ⟨rfl, ?_⟩
  rw [hw90.out]
  exact below_setRow HBL.out (Nat.le_refl _) _
set_option maxRecDepth 100000 in
set_option maxHeartbeats 1600000 in
theorem rdec_d (l : List K) (n : Nat) (hn : n = l.length) (hn3 : n ≤ 9223372036854775807) (b : List Nat) (m : Nat) (hm : m = b.length) (hm2 : m ≤ 1000) (A : Option Addr) (c : Nat) (B : Option Addr) (d : Nat) (E : Int) (r : Rg) (hE : decX l b = (E, r)) (w : World) (hA : Ks w w.heap.size A l) (hB : Bs w w.heap.size b B d) (h1 : isR l = true) (h2 : readE b = 0) (h3 : ¬ (readL b).length < 10) (h4 : (lgetX (saidL (readL b))).1 ≠ 0) : Calls Tryz.prog 15 #[.slice A n c, .slice B m d] w fun e w' => e = .returned (.tuple #[.agg #[.int .i64 r.t.ser, .int .i64 r.t.kind, .int .i64 r.t.frm, .int .i64 r.t.till, .int .i64 r.t.cls, .int .i64 r.t.card, .int .i64 r.t.seat, .int .i64 r.t.day, .int .i64 r.t.days, .int .i64 r.t.uses, .int .i64 r.t.epoch, .int .i64 r.key, .int .i64 r.left, .int .i64 r.inn, .int .i64 r.ver], .int .i64 E]) ∧ Below w.heap.size w w' := by
  have h1' : ¬ isR l = false := by rw [h1]; decide
  obtain ⟨o, hO⟩ : ∃ o, readO b = o := ⟨_, rfl⟩
  obtain ⟨p, hp⟩ : ∃ p, readL b = p := ⟨_, rfl⟩
  rw [hp] at h3 h4
  obtain ⟨k, hk⟩ : ∃ k, p.length = k := ⟨_, rfl⟩
  obtain ⟨j, hj⟩ : ∃ j, k = j + 10 := ⟨k - 10, by omega⟩
  have HJ := Lib.hid (show j = (saidL p).length by rw [saidL, List.length_take]; omega)
  have HJ2 := Lib.hid (show 10 = (tailL p).length by rw [tailL, List.length_drop]; omega)
  have HJP := Lib.hid (show p.length - 10 = j by omega)
  obtain ⟨G, g, hG⟩ : ∃ G g, lgetX (saidL p) = (G, g) := ⟨_, _, rfl⟩
  have h4' : G ≠ 0 := by rw [hG] at h4; exact h4
  obtain ⟨rfl, rfl⟩ : E = G ∧ r = zeroR := by
    rw [decX, if_neg h1', if_neg (by omega), hp, toldX, if_neg (by omega), if_pos h4, hG] at hE
    exact ⟨(Prod.mk.inj hE).1.symm, (Prod.mk.inj hE).2.symm⟩
  have s1 : (E == 0) = false := by rw [beq_eq_false_iff_ne]; exact h4'
  have s2 : (E != 0) = true := by rw [bne_iff_ne]; exact h4'
  have H1 := Lib.hid h1
  have H2 := Lib.hid h2
  have HO := Lib.hid hO
  have HP := Lib.hid hp
  have HK := Lib.hid hk
  have HJK := Lib.hid hj
  have HG := Lib.hid hG
  clear hE h1 h1' h2 h3 h4 h4' hO hp hk hj hG
  have HN := Lib.hid hn
  have HM := Lib.hid hm
  have HA := Lib.hid hA
  have HB := Lib.hid hB
  clear hn hm hA hB
  have HBL := Lib.hid (Below.refl w.heap.size w)
  go_enter Tryz.func15, Tryz.ntmps15
  go_wp2_with fail
  obtain ⟨w1, hw⟩ : ∃ w1, w1 = w.alloc (.cells #[.int .i64 0, .int .i64 0, .int .i64 0, .int .i64 0, .int .i64 0, .int .i64 0, .int .i64 0, .int .i64 0, .int .i64 0, .int .i64 0, .int .i64 0, .int .i64 0, .int .i64 0, .int .i64 0, .int .i64 0] 28) := ⟨_, rfl⟩
  rw [← hw]
  have hx : RBox w1 w.heap.size zeroR := by rw [hw]; exact RBox.new w zeroR
  have hb : Below w.heap.size w w1 := by rw [hw]; exact below_lit w _ _
  replace HA := Lib.hid (HA.out.next hb)
  replace HB := Lib.hid (HB.out.next hb)
  replace HBL := Lib.hid (HBL.out.trans (hb.mono HBL.out.size))
  have XD := Lib.hid hx
  clear hx hb hw
  refine (refis_named l n HN.out true H1.out A c w1 HA.out hn3).mono ?_
  rintro e w2 ⟨rfl, hb⟩
  replace HA := Lib.hid (HA.out.next hb)
  replace HB := Lib.hid (HB.out.next hb)
  replace XD := Lib.hid (XD.out.next hb)
  replace HBL := Lib.hid (HBL.out.trans (hb.mono HBL.out.size))
  clear hb
  go_wp2_with fail
  refine (refread_any b m HM.out hm2 0 H2.out o HO.out p HP.out B d w2 HB.out).mono ?_
  rintro e w3 ⟨AR1, cR1, rfl, hs, hb⟩
  replace HA := Lib.hid (HA.out.next hb)
  replace HB := Lib.hid (HB.out.next hb)
  replace XD := Lib.hid (XD.out.next hb)
  replace HBL := Lib.hid (HBL.out.trans (hb.mono HBL.out.size))
  have R1 := Lib.hid hs
  clear hb hs
  have hcap := R1.out.cap
  have hlen := R1.out.len
  rw [HK.out] at hlen ⊢
  obtain ⟨a, rfl⟩ : ∃ a, AR1 = some a := by
    rcases AR1 with _ | a
    · have h1 := R1.out.nil rfl
      have h2 := HJK.out
      omega
    · exact ⟨a, rfl⟩
  have hm63 : j ≤ 9223372036854775807 := by have := HJK.out; omega
  have hparts := Bs.split R1.out j (by rw [HK.out, HJK.out]; omega)
  have S1 := Lib.hid (show Bs w3 w3.heap.size (saidL p) (some a) cR1 by rw [saidL, HJP.out]; exact hparts.1)
  have S2 := Lib.hid (show Bs w3 w3.heap.size (tailL p) (some (a.add j)) (cR1 - j) by rw [tailL, HJP.out]; exact hparts.2)
  have wz : IntKind.i64.wrap ((k : Int) - 10) = (j : Int) := by
    rw [show (k : Int) - 10 = (j : Int) by have := HJK.out; omega]
    exact IntWalk.i64_in _ (by omega)
  have mc : j ≤ cR1 := by have := HJK.out; omega
  have mk : j ≤ k := by have := HJK.out; omega
  have nc : ¬ cR1 = j := by have := HJK.out; omega
  have m0 : (0 : Int) ≤ (j : Int) := by omega
  have mci : (j : Int) ≤ (cR1 : Int) := by omega
  have mki : (j : Int) ≤ (k : Int) := by omega
  clear hparts
  go_wp2_with fail
  refine (rlget_any (saidL p) j HJ.out E g HG.out (some a) cR1 w3 S1.out).mono ?_
  rintro e w4 ⟨rfl, hb⟩
  replace HA := Lib.hid (HA.out.next hb)
  replace HB := Lib.hid (HB.out.next hb)
  replace XD := Lib.hid (XD.out.next hb)
  replace R1 := Lib.hid (R1.out.next hb)
  replace S1 := Lib.hid (S1.out.next hb)
  replace S2 := Lib.hid (S2.out.next hb)
  replace HBL := Lib.hid (HBL.out.trans (hb.mono HBL.out.size))
  clear hb
  obtain ⟨w80, hw80⟩ : ∃ w80, w80 = w4.alloc (.cells #[.int .i64 g.t.ser, .int .i64 g.t.kind, .int .i64 g.t.frm, .int .i64 g.t.till, .int .i64 g.t.cls, .int .i64 g.t.card, .int .i64 g.t.seat, .int .i64 g.t.day, .int .i64 g.t.days, .int .i64 g.t.uses, .int .i64 g.t.epoch, .int .i64 g.key, .int .i64 g.left, .int .i64 g.inn, .int .i64 g.ver] 28) := ⟨_, rfl⟩
  have hb : Below w4.heap.size w4 w80 := by rw [hw80]; exact below_lit w4 _ _
  replace XD := Lib.hid (XD.out.next hb)
  replace HBL := Lib.hid (HBL.out.trans (hb.mono HBL.out.size))
  clear hb
  have HW := Lib.hid hw80
  clear hw80
  go_wp2_with ((with_reducible refine at_store 4 ?_); rw [← HW.out]; refine wpList_store_named (o := ⟨none, .store 28 (.tmp 4) (.tmp 43), _, _, _, _⟩) rfl 28 (.tmp 4) (.tmp 43) rfl (w.heap.size) #[.int .i64 0, .int .i64 0, .int .i64 0, .int .i64 0, .int .i64 0, .int .i64 0, .int .i64 0, .int .i64 0, .int .i64 0, .int .i64 0, .int .i64 0, .int .i64 0, .int .i64 0, .int .i64 0, .int .i64 0] rfl rfl 28 #[.int .i64 0, .int .i64 0, .int .i64 0, .int .i64 0, .int .i64 0, .int .i64 0, .int .i64 0, .int .i64 0, .int .i64 0, .int .i64 0, .int .i64 0, .int .i64 0, .int .i64 0, .int .i64 0, .int .i64 0] XD.out infoRd rfl (rg_one _ _ _ _ _ _ _ _ _ _ _ _ _ _ _) ?_)
  intro w90 hw90
  go_wp2
  refine bodyPost_ret (results_row_tmp' Tryz.results15 _ w90 (w.heap.size) 28 #[.int .i64 0, .int .i64 0, .int .i64 0, .int .i64 0, .int .i64 0, .int .i64 0, .int .i64 0, .int .i64 0, .int .i64 0, .int .i64 0, .int .i64 0, .int .i64 0, .int .i64 0, .int .i64 0, .int .i64 0] (0, 0) _ rfl (by rw [hw90.out]; exact setRow_heap _ _ _ _ _ _ XD.out) Tryz.underlying28 rfl infoRd) rfl ⟨rfl, ?_⟩
  rw [hw90.out]
  exact below_setRow HBL.out (Nat.le_refl _) _
set_option maxRecDepth 100000 in
set_option maxHeartbeats 1600000 in
theorem rdec_e (l : List K) (n : Nat) (hn : n = l.length) (hn3 : n ≤ 9223372036854775807) (b : List Nat) (m : Nat) (hm : m = b.length) (hm2 : m ≤ 1000) (A : Option Addr) (c : Nat) (B : Option Addr) (d : Nat) (E : Int) (r : Rg) (hE : decX l b = (E, r)) (w : World) (hA : Ks w w.heap.size A l) (hB : Bs w w.heap.size b B d) (h1 : isR l = true) (h2 : readE b = 0) (h3 : ¬ (readL b).length < 10) (h4 : (lgetX (saidL (readL b))).1 = 0) (h5 : findE l (lgetX (saidL (readL b))).2.key ≠ 0) : Calls Tryz.prog 15 #[.slice A n c, .slice B m d] w fun e w' => e = .returned (.tuple #[.agg #[.int .i64 r.t.ser, .int .i64 r.t.kind, .int .i64 r.t.frm, .int .i64 r.t.till, .int .i64 r.t.cls, .int .i64 r.t.card, .int .i64 r.t.seat, .int .i64 r.t.day, .int .i64 r.t.days, .int .i64 r.t.uses, .int .i64 r.t.epoch, .int .i64 r.key, .int .i64 r.left, .int .i64 r.inn, .int .i64 r.ver], .int .i64 E]) ∧ Below w.heap.size w w' := by
  have h1' : ¬ isR l = false := by rw [h1]; decide
  obtain ⟨o, hO⟩ : ∃ o, readO b = o := ⟨_, rfl⟩
  obtain ⟨p, hp⟩ : ∃ p, readL b = p := ⟨_, rfl⟩
  rw [hp] at h3 h4 h5
  obtain ⟨k, hk⟩ : ∃ k, p.length = k := ⟨_, rfl⟩
  obtain ⟨j, hj⟩ : ∃ j, k = j + 10 := ⟨k - 10, by omega⟩
  have HJ := Lib.hid (show j = (saidL p).length by rw [saidL, List.length_take]; omega)
  have HJ2 := Lib.hid (show 10 = (tailL p).length by rw [tailL, List.length_drop]; omega)
  have HJP := Lib.hid (show p.length - 10 = j by omega)
  obtain ⟨g, hG⟩ : ∃ g, lgetX (saidL p) = (0, g) := ⟨(lgetX (saidL p)).2, by rw [← h4]⟩
  have hL := slget_len hG
  rw [hG] at h5
  simp only at h5
  obtain ⟨G, hF⟩ : ∃ G, findE l g.key = G := ⟨_, rfl⟩
  have h5' : G ≠ 0 := by rw [← hF]; exact h5
  obtain ⟨rfl, rfl⟩ : E = G ∧ r = zeroR := by
    rw [decX, if_neg h1', if_neg (by omega), hp, toldX, if_neg (by omega), if_neg (by omega), hG, if_pos h5, hF] at hE
    exact ⟨(Prod.mk.inj hE).1.symm, (Prod.mk.inj hE).2.symm⟩
  have s1 : (E == 0) = false := by rw [beq_eq_false_iff_ne]; exact h5'
  have s2 : (E != 0) = true := by rw [bne_iff_ne]; exact h5'
  obtain ⟨q, hq⟩ : ∃ q, q = findK l g.key := ⟨_, rfl⟩
  have H1 := Lib.hid h1
  have H2 := Lib.hid h2
  have HO := Lib.hid hO
  have HP := Lib.hid hp
  have HK := Lib.hid hk
  have HJK := Lib.hid hj
  have HG := Lib.hid hG
  have HF := Lib.hid hF
  have HQ := Lib.hid hq
  clear hE h1 h1' h2 h3 h4 h5 h5' hO hp hk hj hG hL hF hq
  have HN := Lib.hid hn
  have HM := Lib.hid hm
  have HA := Lib.hid hA
  have HB := Lib.hid hB
  clear hn hm hA hB
  have HBL := Lib.hid (Below.refl w.heap.size w)
  go_enter Tryz.func15, Tryz.ntmps15
  go_wp2_with fail
  obtain ⟨w1, hw⟩ : ∃ w1, w1 = w.alloc (.cells #[.int .i64 0, .int .i64 0, .int .i64 0, .int .i64 0, .int .i64 0, .int .i64 0, .int .i64 0, .int .i64 0, .int .i64 0, .int .i64 0, .int .i64 0, .int .i64 0, .int .i64 0, .int .i64 0, .int .i64 0] 28) := ⟨_, rfl⟩
  rw [← hw]
  have hx : RBox w1 w.heap.size zeroR := by rw [hw]; exact RBox.new w zeroR
  have hb : Below w.heap.size w w1 := by rw [hw]; exact below_lit w _ _
  replace HA := Lib.hid (HA.out.next hb)
  replace HB := Lib.hid (HB.out.next hb)
  replace HBL := Lib.hid (HBL.out.trans (hb.mono HBL.out.size))
  have XD := Lib.hid hx
  clear hx hb hw
  refine (refis_named l n HN.out true H1.out A c w1 HA.out hn3).mono ?_
  rintro e w2 ⟨rfl, hb⟩
  replace HA := Lib.hid (HA.out.next hb)
  replace HB := Lib.hid (HB.out.next hb)
  replace XD := Lib.hid (XD.out.next hb)
  replace HBL := Lib.hid (HBL.out.trans (hb.mono HBL.out.size))
  clear hb
  go_wp2_with fail
  refine (refread_any b m HM.out hm2 0 H2.out o HO.out p HP.out B d w2 HB.out).mono ?_
  rintro e w3 ⟨AR1, cR1, rfl, hs, hb⟩
  replace HA := Lib.hid (HA.out.next hb)
  replace HB := Lib.hid (HB.out.next hb)
  replace XD := Lib.hid (XD.out.next hb)
  replace HBL := Lib.hid (HBL.out.trans (hb.mono HBL.out.size))
  have R1 := Lib.hid hs
  clear hb hs
  have hcap := R1.out.cap
  have hlen := R1.out.len
  rw [HK.out] at hlen ⊢
  obtain ⟨a, rfl⟩ : ∃ a, AR1 = some a := by
    rcases AR1 with _ | a
    · have h1 := R1.out.nil rfl
      have h2 := HJK.out
      omega
    · exact ⟨a, rfl⟩
  have hm63 : j ≤ 9223372036854775807 := by have := HJK.out; omega
  have hparts := Bs.split R1.out j (by rw [HK.out, HJK.out]; omega)
  have S1 := Lib.hid (show Bs w3 w3.heap.size (saidL p) (some a) cR1 by rw [saidL, HJP.out]; exact hparts.1)
  have S2 := Lib.hid (show Bs w3 w3.heap.size (tailL p) (some (a.add j)) (cR1 - j) by rw [tailL, HJP.out]; exact hparts.2)
  have wz : IntKind.i64.wrap ((k : Int) - 10) = (j : Int) := by
    rw [show (k : Int) - 10 = (j : Int) by have := HJK.out; omega]
    exact IntWalk.i64_in _ (by omega)
  have mc : j ≤ cR1 := by have := HJK.out; omega
  have mk : j ≤ k := by have := HJK.out; omega
  have nc : ¬ cR1 = j := by have := HJK.out; omega
  have m0 : (0 : Int) ≤ (j : Int) := by omega
  have mci : (j : Int) ≤ (cR1 : Int) := by omega
  have mki : (j : Int) ≤ (k : Int) := by omega
  clear hparts
  go_wp2_with fail
  refine (rlget_any (saidL p) j HJ.out 0 g HG.out (some a) cR1 w3 S1.out).mono ?_
  rintro e w4 ⟨rfl, hb⟩
  replace HA := Lib.hid (HA.out.next hb)
  replace HB := Lib.hid (HB.out.next hb)
  replace XD := Lib.hid (XD.out.next hb)
  replace R1 := Lib.hid (R1.out.next hb)
  replace S1 := Lib.hid (S1.out.next hb)
  replace S2 := Lib.hid (S2.out.next hb)
  replace HBL := Lib.hid (HBL.out.trans (hb.mono HBL.out.size))
  clear hb
  go_wp2_with fail
  obtain ⟨w5, hw⟩ : ∃ w5, w5 = w4.alloc (.cells #[.int .i64 g.t.ser, .int .i64 g.t.kind, .int .i64 g.t.frm, .int .i64 g.t.till, .int .i64 g.t.cls, .int .i64 g.t.card, .int .i64 g.t.seat, .int .i64 g.t.day, .int .i64 g.t.days, .int .i64 g.t.uses, .int .i64 g.t.epoch, .int .i64 g.key, .int .i64 g.left, .int .i64 g.inn, .int .i64 g.ver] 28) := ⟨_, rfl⟩
  rw [← hw]
  have hx : RBox w5 w4.heap.size g := by rw [hw]; exact RBox.new w4 g
  have hb : Below w4.heap.size w4 w5 := by rw [hw]; exact below_lit w4 _ _
  replace HA := Lib.hid (HA.out.next hb)
  replace HB := Lib.hid (HB.out.next hb)
  replace XD := Lib.hid (XD.out.next hb)
  replace R1 := Lib.hid (R1.out.next hb)
  replace S1 := Lib.hid (S1.out.next hb)
  replace S2 := Lib.hid (S2.out.next hb)
  replace HBL := Lib.hid (HBL.out.trans (hb.mono HBL.out.size))
  have X1 := Lib.hid hx
  clear hx hb hw
  obtain ⟨B1, hB⟩ : ∃ B, B = w4.heap.size := ⟨_, rfl⟩
  rw [← hB] at X1 ⊢
  clear hB
  obtain ⟨c0, c1, c2, c3, c4, c5, c6, c7, c8, c9, c10, c11, c12, c13, c14⟩ := X1.out.cells
  refine (reffind_any l n HN.out g.key A c w5 HA.out hn3 q E HQ.out HF.out.symm).mono ?_
  rintro e w6 ⟨S, cc, rfl, hs, hb⟩
  clear c0 c1 c2 c3 c4 c5 c6 c7 c8 c9 c10 c11 c12 c13 c14
  replace HA := Lib.hid (HA.out.next hb)
  replace HB := Lib.hid (HB.out.next hb)
  replace XD := Lib.hid (XD.out.next hb)
  replace R1 := Lib.hid (R1.out.next hb)
  replace S1 := Lib.hid (S1.out.next hb)
  replace S2 := Lib.hid (S2.out.next hb)
  replace X1 := Lib.hid (X1.out.next hb)
  replace HBL := Lib.hid (HBL.out.trans (hb.mono HBL.out.size))
  have FS := Lib.hid hs
  clear hb hs
  obtain ⟨w80, hw80⟩ : ∃ w80, w80 = w6.alloc (.cells #[.int .i64 q.id, .slice S q.sec.length cc, .int .i64 q.frm, .int .i64 q.til] 46) := ⟨_, rfl⟩
  have hb : Below w6.heap.size w6 w80 := by rw [hw80]; exact below_lit w6 _ _
  replace XD := Lib.hid (XD.out.next hb)
  replace HBL := Lib.hid (HBL.out.trans (hb.mono HBL.out.size))
  clear hb
  have HW := Lib.hid hw80
  clear hw80
  go_wp2_with ((with_reducible refine at_store 4 ?_); rw [← HW.out]; refine wpList_store_named (o := ⟨none, .store 28 (.tmp 4) (.tmp 54), _, _, _, _⟩) rfl 28 (.tmp 4) (.tmp 54) rfl (w.heap.size) #[.int .i64 0, .int .i64 0, .int .i64 0, .int .i64 0, .int .i64 0, .int .i64 0, .int .i64 0, .int .i64 0, .int .i64 0, .int .i64 0, .int .i64 0, .int .i64 0, .int .i64 0, .int .i64 0, .int .i64 0] rfl rfl 28 #[.int .i64 0, .int .i64 0, .int .i64 0, .int .i64 0, .int .i64 0, .int .i64 0, .int .i64 0, .int .i64 0, .int .i64 0, .int .i64 0, .int .i64 0, .int .i64 0, .int .i64 0, .int .i64 0, .int .i64 0] XD.out infoRd rfl (rg_one _ _ _ _ _ _ _ _ _ _ _ _ _ _ _) ?_)
  intro w90 hw90
  go_wp2
  refine bodyPost_ret (results_row_tmp' Tryz.results15 _ w90 (w.heap.size) 28 #[.int .i64 0, .int .i64 0, .int .i64 0, .int .i64 0, .int .i64 0, .int .i64 0, .int .i64 0, .int .i64 0, .int .i64 0, .int .i64 0, .int .i64 0, .int .i64 0, .int .i64 0, .int .i64 0, .int .i64 0] (0, 0) _ rfl (by rw [hw90.out]; exact setRow_heap _ _ _ _ _ _ XD.out) Tryz.underlying28 rfl infoRd) rfl ⟨rfl, ?_⟩
  rw [hw90.out]
  exact below_setRow HBL.out (Nat.le_refl _) _
set_option maxRecDepth 100000 in
set_option maxHeartbeats 1600000 in
theorem rdec_f (l : List K) (n : Nat) (hn : n = l.length) (hn3 : n ≤ 9223372036854775807) (b : List Nat) (m : Nat) (hm : m = b.length) (hm2 : m ≤ 1000) (A : Option Addr) (c : Nat) (B : Option Addr) (d : Nat) (E : Int) (r : Rg) (hE : decX l b = (E, r)) (w : World) (hA : Ks w w.heap.size A l) (hB : Bs w w.heap.size b B d) (h1 : isR l = true) (h2 : readE b = 0) (h3 : ¬ (readL b).length < 10) (h4 : (lgetX (saidL (readL b))).1 = 0) (h5 : findE l (lgetX (saidL (readL b))).2.key = 0) (h6 : (tailL (readL b) == tagS (findK l (lgetX (saidL (readL b))).2.key).sec (saidL (readL b))) = false) : Calls Tryz.prog 15 #[.slice A n c, .slice B m d] w fun e w' => e = .returned (.tuple #[.agg #[.int .i64 r.t.ser, .int .i64 r.t.kind, .int .i64 r.t.frm, .int .i64 r.t.till, .int .i64 r.t.cls, .int .i64 r.t.card, .int .i64 r.t.seat, .int .i64 r.t.day, .int .i64 r.t.days, .int .i64 r.t.uses, .int .i64 r.t.epoch, .int .i64 r.key, .int .i64 r.left, .int .i64 r.inn, .int .i64 r.ver], .int .i64 E]) ∧ Below w.heap.size w w' := by
  have h1' : ¬ isR l = false := by rw [h1]; decide
  obtain ⟨o, hO⟩ : ∃ o, readO b = o := ⟨_, rfl⟩
  obtain ⟨p, hp⟩ : ∃ p, readL b = p := ⟨_, rfl⟩
  rw [hp] at h3 h4 h5 h6
  obtain ⟨k, hk⟩ : ∃ k, p.length = k := ⟨_, rfl⟩
  obtain ⟨j, hj⟩ : ∃ j, k = j + 10 := ⟨k - 10, by omega⟩
  have HJ := Lib.hid (show j = (saidL p).length by rw [saidL, List.length_take]; omega)
  have HJ2 := Lib.hid (show 10 = (tailL p).length by rw [tailL, List.length_drop]; omega)
  have HJP := Lib.hid (show p.length - 10 = j by omega)
  obtain ⟨g, hG⟩ : ∃ g, lgetX (saidL p) = (0, g) := ⟨(lgetX (saidL p)).2, by rw [← h4]⟩
  have hL := slget_len hG
  rw [hG] at h5 h6
  simp only at h5 h6
  obtain ⟨rfl, rfl⟩ : E = 11 ∧ r = zeroR := by
    rw [decX, if_neg h1', if_neg (by omega), hp, toldX, if_neg (by omega), if_neg (by omega), hG, if_neg (fun h => h h5), if_pos h6] at hE
    exact ⟨(Prod.mk.inj hE).1.symm, (Prod.mk.inj hE).2.symm⟩
  have h64 := find_sec h5
  obtain ⟨q, hq⟩ : ∃ q, q = findK l g.key := ⟨_, rfl⟩
  rw [← hq] at h6 h64
  obtain ⟨T, hTg⟩ : ∃ T, tagS q.sec (saidL p) = T := ⟨_, rfl⟩
  have hTL : T.length = 10 := by rw [← hTg]; exact tagS_len _ _
  rw [hTg] at h6
  have H5 := Lib.hid h5.symm
  have H6 := Lib.hid h6
  have H64 := Lib.hid h64
  have HTG := Lib.hid hTg
  have HTL := Lib.hid hTL
  have H1 := Lib.hid h1
  have H2 := Lib.hid h2
  have HO := Lib.hid hO
  have HP := Lib.hid hp
  have HK := Lib.hid hk
  have HJK := Lib.hid hj
  have HG := Lib.hid hG
  have HQ := Lib.hid hq
  have HJL := Lib.hid (show j ≤ 3999 by have := HJ.out; omega)
  clear hE h1 h1' h2 h3 h4 h5 h6 h64 hO hp hk hj hG hL hq hTg hTL
  have HN := Lib.hid hn
  have HM := Lib.hid hm
  have HA := Lib.hid hA
  have HB := Lib.hid hB
  clear hn hm hA hB
  have HBL := Lib.hid (Below.refl w.heap.size w)
  go_enter Tryz.func15, Tryz.ntmps15
  go_wp2_with fail
  obtain ⟨w1, hw⟩ : ∃ w1, w1 = w.alloc (.cells #[.int .i64 0, .int .i64 0, .int .i64 0, .int .i64 0, .int .i64 0, .int .i64 0, .int .i64 0, .int .i64 0, .int .i64 0, .int .i64 0, .int .i64 0, .int .i64 0, .int .i64 0, .int .i64 0, .int .i64 0] 28) := ⟨_, rfl⟩
  rw [← hw]
  have hx : RBox w1 w.heap.size zeroR := by rw [hw]; exact RBox.new w zeroR
  have hb : Below w.heap.size w w1 := by rw [hw]; exact below_lit w _ _
  replace HA := Lib.hid (HA.out.next hb)
  replace HB := Lib.hid (HB.out.next hb)
  replace HBL := Lib.hid (HBL.out.trans (hb.mono HBL.out.size))
  have XD := Lib.hid hx
  clear hx hb hw
  refine (refis_named l n HN.out true H1.out A c w1 HA.out hn3).mono ?_
  rintro e w2 ⟨rfl, hb⟩
  replace HA := Lib.hid (HA.out.next hb)
  replace HB := Lib.hid (HB.out.next hb)
  replace XD := Lib.hid (XD.out.next hb)
  replace HBL := Lib.hid (HBL.out.trans (hb.mono HBL.out.size))
  clear hb
  go_wp2_with fail
  refine (refread_any b m HM.out hm2 0 H2.out o HO.out p HP.out B d w2 HB.out).mono ?_
  rintro e w3 ⟨AR1, cR1, rfl, hs, hb⟩
  replace HA := Lib.hid (HA.out.next hb)
  replace HB := Lib.hid (HB.out.next hb)
  replace XD := Lib.hid (XD.out.next hb)
  replace HBL := Lib.hid (HBL.out.trans (hb.mono HBL.out.size))
  have R1 := Lib.hid hs
  clear hb hs
  have hcap := R1.out.cap
  have hlen := R1.out.len
  rw [HK.out] at hlen ⊢
  obtain ⟨a, rfl⟩ : ∃ a, AR1 = some a := by
    rcases AR1 with _ | a
    · have h1 := R1.out.nil rfl
      have h2 := HJK.out
      omega
    · exact ⟨a, rfl⟩
  have hm63 : j ≤ 9223372036854775807 := by have := HJK.out; omega
  have hparts := Bs.split R1.out j (by rw [HK.out, HJK.out]; omega)
  have S1 := Lib.hid (show Bs w3 w3.heap.size (saidL p) (some a) cR1 by rw [saidL, HJP.out]; exact hparts.1)
  have S2 := Lib.hid (show Bs w3 w3.heap.size (tailL p) (some (a.add j)) (cR1 - j) by rw [tailL, HJP.out]; exact hparts.2)
  have wz : IntKind.i64.wrap ((k : Int) - 10) = (j : Int) := by
    rw [show (k : Int) - 10 = (j : Int) by have := HJK.out; omega]
    exact IntWalk.i64_in _ (by omega)
  have mc : j ≤ cR1 := by have := HJK.out; omega
  have mk : j ≤ k := by have := HJK.out; omega
  have nc : ¬ cR1 = j := by have := HJK.out; omega
  have m0 : (0 : Int) ≤ (j : Int) := by omega
  have mci : (j : Int) ≤ (cR1 : Int) := by omega
  have mki : (j : Int) ≤ (k : Int) := by omega
  clear hparts
  go_wp2_with fail
  refine (rlget_any (saidL p) j HJ.out 0 g HG.out (some a) cR1 w3 S1.out).mono ?_
  rintro e w4 ⟨rfl, hb⟩
  replace HA := Lib.hid (HA.out.next hb)
  replace HB := Lib.hid (HB.out.next hb)
  replace XD := Lib.hid (XD.out.next hb)
  replace R1 := Lib.hid (R1.out.next hb)
  replace S1 := Lib.hid (S1.out.next hb)
  replace S2 := Lib.hid (S2.out.next hb)
  replace HBL := Lib.hid (HBL.out.trans (hb.mono HBL.out.size))
  clear hb
  go_wp2_with fail
  obtain ⟨w5, hw⟩ : ∃ w5, w5 = w4.alloc (.cells #[.int .i64 g.t.ser, .int .i64 g.t.kind, .int .i64 g.t.frm, .int .i64 g.t.till, .int .i64 g.t.cls, .int .i64 g.t.card, .int .i64 g.t.seat, .int .i64 g.t.day, .int .i64 g.t.days, .int .i64 g.t.uses, .int .i64 g.t.epoch, .int .i64 g.key, .int .i64 g.left, .int .i64 g.inn, .int .i64 g.ver] 28) := ⟨_, rfl⟩
  rw [← hw]
  have hx : RBox w5 w4.heap.size g := by rw [hw]; exact RBox.new w4 g
  have hb : Below w4.heap.size w4 w5 := by rw [hw]; exact below_lit w4 _ _
  replace HA := Lib.hid (HA.out.next hb)
  replace HB := Lib.hid (HB.out.next hb)
  replace XD := Lib.hid (XD.out.next hb)
  replace R1 := Lib.hid (R1.out.next hb)
  replace S1 := Lib.hid (S1.out.next hb)
  replace S2 := Lib.hid (S2.out.next hb)
  replace HBL := Lib.hid (HBL.out.trans (hb.mono HBL.out.size))
  have X1 := Lib.hid hx
  clear hx hb hw
  obtain ⟨B1, hB⟩ : ∃ B, B = w4.heap.size := ⟨_, rfl⟩
  rw [← hB] at X1 ⊢
  clear hB
  obtain ⟨c0, c1, c2, c3, c4, c5, c6, c7, c8, c9, c10, c11, c12, c13, c14⟩ := X1.out.cells
  refine (reffind_any l n HN.out g.key A c w5 HA.out hn3 q 0 HQ.out H5.out).mono ?_
  rintro e w6 ⟨S, cc, rfl, hs, hb⟩
  clear c0 c1 c2 c3 c4 c5 c6 c7 c8 c9 c10 c11 c12 c13 c14
  replace HA := Lib.hid (HA.out.next hb)
  replace HB := Lib.hid (HB.out.next hb)
  replace XD := Lib.hid (XD.out.next hb)
  replace R1 := Lib.hid (R1.out.next hb)
  replace S1 := Lib.hid (S1.out.next hb)
  replace S2 := Lib.hid (S2.out.next hb)
  replace X1 := Lib.hid (X1.out.next hb)
  replace HBL := Lib.hid (HBL.out.trans (hb.mono HBL.out.size))
  have FS := Lib.hid hs
  clear hb hs
  go_wp2_with fail
  obtain ⟨w7, hw⟩ : ∃ w7, w7 = w6.alloc (.cells #[.int .i64 q.id, .slice S q.sec.length cc, .int .i64 q.frm, .int .i64 q.til] 46) := ⟨_, rfl⟩
  rw [← hw]
  have hx : Box w7 w6.heap.size ⟨q, S, cc⟩ := by rw [hw]; exact (box_lit w6 ⟨q, S, cc⟩ FS.out).1
  have hb : Below w6.heap.size w6 w7 := by rw [hw]; exact below_lit w6 _ _
  replace HA := Lib.hid (HA.out.next hb)
  replace HB := Lib.hid (HB.out.next hb)
  replace XD := Lib.hid (XD.out.next hb)
  replace R1 := Lib.hid (R1.out.next hb)
  replace S1 := Lib.hid (S1.out.next hb)
  replace S2 := Lib.hid (S2.out.next hb)
  replace X1 := Lib.hid (X1.out.next hb)
  replace FS := Lib.hid (FS.out.next hb)
  replace HBL := Lib.hid (HBL.out.trans (hb.mono HBL.out.size))
  have HX := Lib.hid hx
  clear hx hb hw
  obtain ⟨X, hB⟩ : ∃ B, B = w6.heap.size := ⟨_, rfl⟩
  rw [← hB] at HX ⊢
  clear hB
  have hb : Below w7.heap.size w7 w7.drew := below_drewN (Below.refl _ _) 1
  replace HA := Lib.hid (HA.out.next hb)
  replace HB := Lib.hid (HB.out.next hb)
  replace XD := Lib.hid (XD.out.next hb)
  replace R1 := Lib.hid (R1.out.next hb)
  replace S1 := Lib.hid (S1.out.next hb)
  replace S2 := Lib.hid (S2.out.next hb)
  replace X1 := Lib.hid (X1.out.next hb)
  replace FS := Lib.hid (FS.out.next hb)
  replace HX := Lib.hid (HX.out.next hb)
  replace HBL := Lib.hid (HBL.out.trans (hb.mono HBL.out.size))
  clear hb
  have k1 := cell_of_row _ _ 1 _ _ _ HX.out.1
  go_region_with (first | (go_at_call 17; refine (rtag_any q.sec (saidL p) q.sec.length j rfl HJ.out S (some a) cc cR1 _ FS.out S1.out (by have := H64.out; omega) (by have := HJL.out; omega) T HTG.out).mono ?_; rintro e w8 ⟨g9, cap, rfl, hr, hb8⟩; have G := Lib.hid hr; have S28 := Lib.hid (S2.out.next hb8); have XD8 := Lib.hid (XD.out.next hb8); have X18 := Lib.hid (X1.out.next hb8); have HBL8 := Lib.hid (HBL.out.trans (hb8.mono HBL.out.size)); clear hr hb8) | (go_at_call 13; refine (same_any (tailL p) T (k - j) 10 (by have := HJ2.out; have := HJK.out; omega) HTL.out.symm _ _ _ cap w8.heap.size w8 S28.out.rd G.out (by omega) (by omega)).mono ?_; rintro e w9 ⟨rfl, hb9⟩; rw [H6.out]; have XD9 := Lib.hid (XD8.out.next hb9); have X19 := Lib.hid (X18.out.next hb9); have HBL9 := Lib.hid (HBL8.out.trans (hb9.mono HBL8.out.size)); clear hb9))
  all_goals
    clear XD X1 HBL XD8 X18 HBL8
    have XD := XD9
    have X1 := X19
    have HBL := HBL9
    clear XD9 X19 HBL9 k1
    go_wp2_with ((with_reducible refine at_store 4 ?_); refine wpList_store_named (o := ⟨none, .store 28 (.tmp 4) (.tmp 67), _, _, _, _⟩) rfl 28 (.tmp 4) (.tmp 67) rfl (w.heap.size) #[.int .i64 0, .int .i64 0, .int .i64 0, .int .i64 0, .int .i64 0, .int .i64 0, .int .i64 0, .int .i64 0, .int .i64 0, .int .i64 0, .int .i64 0, .int .i64 0, .int .i64 0, .int .i64 0, .int .i64 0] rfl rfl 28 #[.int .i64 0, .int .i64 0, .int .i64 0, .int .i64 0, .int .i64 0, .int .i64 0, .int .i64 0, .int .i64 0, .int .i64 0, .int .i64 0, .int .i64 0, .int .i64 0, .int .i64 0, .int .i64 0, .int .i64 0] XD.out infoRd rfl (rg_one _ _ _ _ _ _ _ _ _ _ _ _ _ _ _) ?_)
    intro w90 hw90
    go_wp2
    refine bodyPost_ret (results_row_tmp' Tryz.results15 _ w90 (w.heap.size) 28 #[.int .i64 0, .int .i64 0, .int .i64 0, .int .i64 0, .int .i64 0, .int .i64 0, .int .i64 0, .int .i64 0, .int .i64 0, .int .i64 0, .int .i64 0, .int .i64 0, .int .i64 0, .int .i64 0, .int .i64 0] (0, 0) _ rfl (by rw [hw90.out]; exact setRow_heap _ _ _ _ _ _ XD.out) Tryz.underlying28 rfl infoRd) rfl ⟨rfl, ?_⟩
    rw [hw90.out]
    exact below_setRow HBL.out (Nat.le_refl _) _
set_option maxRecDepth 100000 in
set_option maxHeartbeats 1600000 in
theorem rdec_g (l : List K) (n : Nat) (hn : n = l.length) (hn3 : n ≤ 9223372036854775807) (b : List Nat) (m : Nat) (hm : m = b.length) (hm2 : m ≤ 1000) (A : Option Addr) (c : Nat) (B : Option Addr) (d : Nat) (E : Int) (r : Rg) (hE : decX l b = (E, r)) (w : World) (hA : Ks w w.heap.size A l) (hB : Bs w w.heap.size b B d) (h1 : isR l = true) (h2 : readE b = 0) (h3 : ¬ (readL b).length < 10) (h4 : (lgetX (saidL (readL b))).1 = 0) (h5 : findE l (lgetX (saidL (readL b))).2.key = 0) (h6 : (tailL (readL b) == tagS (findK l (lgetX (saidL (readL b))).2.key).sec (saidL (readL b))) = true) : Calls Tryz.prog 15 #[.slice A n c, .slice B m d] w fun e w' => e = .returned (.tuple #[.agg #[.int .i64 r.t.ser, .int .i64 r.t.kind, .int .i64 r.t.frm, .int .i64 r.t.till, .int .i64 r.t.cls, .int .i64 r.t.card, .int .i64 r.t.seat, .int .i64 r.t.day, .int .i64 r.t.days, .int .i64 r.t.uses, .int .i64 r.t.epoch, .int .i64 r.key, .int .i64 r.left, .int .i64 r.inn, .int .i64 r.ver], .int .i64 E]) ∧ Below w.heap.size w w' := by
  have h1' : ¬ isR l = false := by rw [h1]; decide
  obtain ⟨o, hO⟩ : ∃ o, readO b = o := ⟨_, rfl⟩
  obtain ⟨p, hp⟩ : ∃ p, readL b = p := ⟨_, rfl⟩
  rw [hp] at h3 h4 h5 h6
  obtain ⟨k, hk⟩ : ∃ k, p.length = k := ⟨_, rfl⟩
  obtain ⟨j, hj⟩ : ∃ j, k = j + 10 := ⟨k - 10, by omega⟩
  have HJ := Lib.hid (show j = (saidL p).length by rw [saidL, List.length_take]; omega)
  have HJ2 := Lib.hid (show 10 = (tailL p).length by rw [tailL, List.length_drop]; omega)
  have HJP := Lib.hid (show p.length - 10 = j by omega)
  obtain ⟨g, hG⟩ : ∃ g, lgetX (saidL p) = (0, g) := ⟨(lgetX (saidL p)).2, by rw [← h4]⟩
  have hL := slget_len hG
  rw [hG] at h5 h6
  simp only at h5 h6
  obtain ⟨rfl, rfl⟩ : E = 0 ∧ r = g := by
    rw [decX, if_neg h1', if_neg (by omega), hp, toldX, if_neg (by omega), if_neg (by omega), hG, if_neg (fun h => h h5), if_neg (by rw [h6]; decide)] at hE
    exact ⟨(Prod.mk.inj hE).1.symm, (Prod.mk.inj hE).2.symm⟩
  have h64 := find_sec h5
  obtain ⟨q, hq⟩ : ∃ q, q = findK l r.key := ⟨_, rfl⟩
  rw [← hq] at h6 h64
  obtain ⟨T, hTg⟩ : ∃ T, tagS q.sec (saidL p) = T := ⟨_, rfl⟩
  have hTL : T.length = 10 := by rw [← hTg]; exact tagS_len _ _
  rw [hTg] at h6
  have H5 := Lib.hid h5.symm
  have H6 := Lib.hid h6
  have H64 := Lib.hid h64
  have HTG := Lib.hid hTg
  have HTL := Lib.hid hTL
  have H1 := Lib.hid h1
  have H2 := Lib.hid h2
  have HO := Lib.hid hO
  have HP := Lib.hid hp
  have HK := Lib.hid hk
  have HJK := Lib.hid hj
  have HG := Lib.hid hG
  have HQ := Lib.hid hq
  have HJL := Lib.hid (show j ≤ 3999 by have := HJ.out; omega)
  clear hE h1 h1' h2 h3 h4 h5 h6 h64 hO hp hk hj hG hL hq hTg hTL
  have HN := Lib.hid hn
  have HM := Lib.hid hm
  have HA := Lib.hid hA
  have HB := Lib.hid hB
  clear hn hm hA hB
  have HBL := Lib.hid (Below.refl w.heap.size w)
  go_enter Tryz.func15, Tryz.ntmps15
  go_wp2_with fail
  obtain ⟨w1, hw⟩ : ∃ w1, w1 = w.alloc (.cells #[.int .i64 0, .int .i64 0, .int .i64 0, .int .i64 0, .int .i64 0, .int .i64 0, .int .i64 0, .int .i64 0, .int .i64 0, .int .i64 0, .int .i64 0, .int .i64 0, .int .i64 0, .int .i64 0, .int .i64 0] 28) := ⟨_, rfl⟩
  rw [← hw]
  have hx : RBox w1 w.heap.size zeroR := by rw [hw]; exact RBox.new w zeroR
  have hb : Below w.heap.size w w1 := by rw [hw]; exact below_lit w _ _
  replace HA := Lib.hid (HA.out.next hb)
  replace HB := Lib.hid (HB.out.next hb)
  replace HBL := Lib.hid (HBL.out.trans (hb.mono HBL.out.size))
  have XD := Lib.hid hx
  clear hx hb hw
  refine (refis_named l n HN.out true H1.out A c w1 HA.out hn3).mono ?_
  rintro e w2 ⟨rfl, hb⟩
  replace HA := Lib.hid (HA.out.next hb)
  replace HB := Lib.hid (HB.out.next hb)
  replace XD := Lib.hid (XD.out.next hb)
  replace HBL := Lib.hid (HBL.out.trans (hb.mono HBL.out.size))
  clear hb
  go_wp2_with fail
  refine (refread_any b m HM.out hm2 0 H2.out o HO.out p HP.out B d w2 HB.out).mono ?_
  rintro e w3 ⟨AR1, cR1, rfl, hs, hb⟩
  replace HA := Lib.hid (HA.out.next hb)
  replace HB := Lib.hid (HB.out.next hb)
  replace XD := Lib.hid (XD.out.next hb)
  replace HBL := Lib.hid (HBL.out.trans (hb.mono HBL.out.size))
  have R1 := Lib.hid hs
  clear hb hs
  have hcap := R1.out.cap
  have hlen := R1.out.len
  rw [HK.out] at hlen ⊢
  obtain ⟨a, rfl⟩ : ∃ a, AR1 = some a := by
    rcases AR1 with _ | a
    · have h1 := R1.out.nil rfl
      have h2 := HJK.out
      omega
    · exact ⟨a, rfl⟩
  have hm63 : j ≤ 9223372036854775807 := by have := HJK.out; omega
  have hparts := Bs.split R1.out j (by rw [HK.out, HJK.out]; omega)
  have S1 := Lib.hid (show Bs w3 w3.heap.size (saidL p) (some a) cR1 by rw [saidL, HJP.out]; exact hparts.1)
  have S2 := Lib.hid (show Bs w3 w3.heap.size (tailL p) (some (a.add j)) (cR1 - j) by rw [tailL, HJP.out]; exact hparts.2)
  have wz : IntKind.i64.wrap ((k : Int) - 10) = (j : Int) := by
    rw [show (k : Int) - 10 = (j : Int) by have := HJK.out; omega]
    exact IntWalk.i64_in _ (by omega)
  have mc : j ≤ cR1 := by have := HJK.out; omega
  have mk : j ≤ k := by have := HJK.out; omega
  have nc : ¬ cR1 = j := by have := HJK.out; omega
  have m0 : (0 : Int) ≤ (j : Int) := by omega
  have mci : (j : Int) ≤ (cR1 : Int) := by omega
  have mki : (j : Int) ≤ (k : Int) := by omega
  clear hparts
  go_wp2_with fail
  refine (rlget_any (saidL p) j HJ.out 0 r HG.out (some a) cR1 w3 S1.out).mono ?_
  rintro e w4 ⟨rfl, hb⟩
  replace HA := Lib.hid (HA.out.next hb)
  replace HB := Lib.hid (HB.out.next hb)
  replace XD := Lib.hid (XD.out.next hb)
  replace R1 := Lib.hid (R1.out.next hb)
  replace S1 := Lib.hid (S1.out.next hb)
  replace S2 := Lib.hid (S2.out.next hb)
  replace HBL := Lib.hid (HBL.out.trans (hb.mono HBL.out.size))
  clear hb
  go_wp2_with fail
  obtain ⟨w5, hw⟩ : ∃ w5, w5 = w4.alloc (.cells #[.int .i64 r.t.ser, .int .i64 r.t.kind, .int .i64 r.t.frm, .int .i64 r.t.till, .int .i64 r.t.cls, .int .i64 r.t.card, .int .i64 r.t.seat, .int .i64 r.t.day, .int .i64 r.t.days, .int .i64 r.t.uses, .int .i64 r.t.epoch, .int .i64 r.key, .int .i64 r.left, .int .i64 r.inn, .int .i64 r.ver] 28) := ⟨_, rfl⟩
  rw [← hw]
  have hx : RBox w5 w4.heap.size r := by rw [hw]; exact RBox.new w4 r
  have hb : Below w4.heap.size w4 w5 := by rw [hw]; exact below_lit w4 _ _
  replace HA := Lib.hid (HA.out.next hb)
  replace HB := Lib.hid (HB.out.next hb)
  replace XD := Lib.hid (XD.out.next hb)
  replace R1 := Lib.hid (R1.out.next hb)
  replace S1 := Lib.hid (S1.out.next hb)
  replace S2 := Lib.hid (S2.out.next hb)
  replace HBL := Lib.hid (HBL.out.trans (hb.mono HBL.out.size))
  have X1 := Lib.hid hx
  clear hx hb hw
  obtain ⟨B1, hB⟩ : ∃ B, B = w4.heap.size := ⟨_, rfl⟩
  rw [← hB] at X1 ⊢
  clear hB
  obtain ⟨c0, c1, c2, c3, c4, c5, c6, c7, c8, c9, c10, c11, c12, c13, c14⟩ := X1.out.cells
  refine (reffind_any l n HN.out r.key A c w5 HA.out hn3 q 0 HQ.out H5.out).mono ?_
  rintro e w6 ⟨S, cc, rfl, hs, hb⟩
  clear c0 c1 c2 c3 c4 c5 c6 c7 c8 c9 c10 c11 c12 c13 c14
  replace HA := Lib.hid (HA.out.next hb)
  replace HB := Lib.hid (HB.out.next hb)
  replace XD := Lib.hid (XD.out.next hb)
  replace R1 := Lib.hid (R1.out.next hb)
  replace S1 := Lib.hid (S1.out.next hb)
  replace S2 := Lib.hid (S2.out.next hb)
  replace X1 := Lib.hid (X1.out.next hb)
  replace HBL := Lib.hid (HBL.out.trans (hb.mono HBL.out.size))
  have FS := Lib.hid hs
  clear hb hs
  go_wp2_with fail
  obtain ⟨w7, hw⟩ : ∃ w7, w7 = w6.alloc (.cells #[.int .i64 q.id, .slice S q.sec.length cc, .int .i64 q.frm, .int .i64 q.til] 46) := ⟨_, rfl⟩
  rw [← hw]
  have hx : Box w7 w6.heap.size ⟨q, S, cc⟩ := by rw [hw]; exact (box_lit w6 ⟨q, S, cc⟩ FS.out).1
  have hb : Below w6.heap.size w6 w7 := by rw [hw]; exact below_lit w6 _ _
  replace HA := Lib.hid (HA.out.next hb)
  replace HB := Lib.hid (HB.out.next hb)
  replace XD := Lib.hid (XD.out.next hb)
  replace R1 := Lib.hid (R1.out.next hb)
  replace S1 := Lib.hid (S1.out.next hb)
  replace S2 := Lib.hid (S2.out.next hb)
  replace X1 := Lib.hid (X1.out.next hb)
  replace FS := Lib.hid (FS.out.next hb)
  replace HBL := Lib.hid (HBL.out.trans (hb.mono HBL.out.size))
  have HX := Lib.hid hx
  clear hx hb hw
  obtain ⟨X, hB⟩ : ∃ B, B = w6.heap.size := ⟨_, rfl⟩
  rw [← hB] at HX ⊢
  clear hB
  have hb : Below w7.heap.size w7 w7.drew := below_drewN (Below.refl _ _) 1
  replace HA := Lib.hid (HA.out.next hb)
  replace HB := Lib.hid (HB.out.next hb)
  replace XD := Lib.hid (XD.out.next hb)
  replace R1 := Lib.hid (R1.out.next hb)
  replace S1 := Lib.hid (S1.out.next hb)
  replace S2 := Lib.hid (S2.out.next hb)
  replace X1 := Lib.hid (X1.out.next hb)
  replace FS := Lib.hid (FS.out.next hb)
  replace HX := Lib.hid (HX.out.next hb)
  replace HBL := Lib.hid (HBL.out.trans (hb.mono HBL.out.size))
  clear hb
  have k1 := cell_of_row _ _ 1 _ _ _ HX.out.1
  go_region_with (first | (go_at_call 17; refine (rtag_any q.sec (saidL p) q.sec.length j rfl HJ.out S (some a) cc cR1 _ FS.out S1.out (by have := H64.out; omega) (by have := HJL.out; omega) T HTG.out).mono ?_; rintro e w8 ⟨g9, cap, rfl, hr, hb8⟩; have G := Lib.hid hr; have S28 := Lib.hid (S2.out.next hb8); have XD8 := Lib.hid (XD.out.next hb8); have X18 := Lib.hid (X1.out.next hb8); have HBL8 := Lib.hid (HBL.out.trans (hb8.mono HBL.out.size)); clear hr hb8) | (go_at_call 13; refine (same_any (tailL p) T (k - j) 10 (by have := HJ2.out; have := HJK.out; omega) HTL.out.symm _ _ _ cap w8.heap.size w8 S28.out.rd G.out (by omega) (by omega)).mono ?_; rintro e w9 ⟨rfl, hb9⟩; rw [H6.out]; have XD9 := Lib.hid (XD8.out.next hb9); have X19 := Lib.hid (X18.out.next hb9); have HBL9 := Lib.hid (HBL8.out.trans (hb9.mono HBL8.out.size)); clear hb9))
  all_goals
    clear XD X1 HBL XD8 X18 HBL8
    have XD := XD9
    have X1 := X19
    have HBL := HBL9
    clear XD9 X19 HBL9 k1
    obtain ⟨c0, c1, c2, c3, c4, c5, c6, c7, c8, c9, c10, c11, c12, c13, c14⟩ := X1.out.cells
    go_wp2_with ((with_reducible refine at_store 4 ?_); refine wpList_store_named (o := ⟨none, .store 28 (.tmp 4) (.tmp 68), _, _, _, _⟩) rfl 28 (.tmp 4) (.tmp 68) rfl (w.heap.size) #[.int .i64 r.t.ser, .int .i64 r.t.kind, .int .i64 r.t.frm, .int .i64 r.t.till, .int .i64 r.t.cls, .int .i64 r.t.card, .int .i64 r.t.seat, .int .i64 r.t.day, .int .i64 r.t.days, .int .i64 r.t.uses, .int .i64 r.t.epoch, .int .i64 r.key, .int .i64 r.left, .int .i64 r.inn, .int .i64 r.ver] rfl rfl 28 #[.int .i64 0, .int .i64 0, .int .i64 0, .int .i64 0, .int .i64 0, .int .i64 0, .int .i64 0, .int .i64 0, .int .i64 0, .int .i64 0, .int .i64 0, .int .i64 0, .int .i64 0, .int .i64 0, .int .i64 0] XD.out infoRd rfl (rg_one _ _ _ _ _ _ _ _ _ _ _ _ _ _ _) ?_)
    clear c0 c1 c2 c3 c4 c5 c6 c7 c8 c9 c10 c11 c12 c13 c14
    intro w90 hw90
    go_wp2
    refine bodyPost_ret (results_row_tmp' Tryz.results15 _ w90 (w.heap.size) 28 #[.int .i64 r.t.ser, .int .i64 r.t.kind, .int .i64 r.t.frm, .int .i64 r.t.till, .int .i64 r.t.cls, .int .i64 r.t.card, .int .i64 r.t.seat, .int .i64 r.t.day, .int .i64 r.t.days, .int .i64 r.t.uses, .int .i64 r.t.epoch, .int .i64 r.key, .int .i64 r.left, .int .i64 r.inn, .int .i64 r.ver] (0, 0) _ rfl (by rw [hw90.out]; exact setRow_heap _ _ _ _ _ _ XD.out) Tryz.underlying28 rfl infoRd) rfl ⟨rfl, ?_⟩
    rw [hw90.out]
    exact below_setRow HBL.out (Nat.le_refl _) _
theorem rdec_any (l : List K) (n : Nat) (hn : n = l.length) (hn3 : n ≤ 9223372036854775807) (b : List Nat) (m : Nat) (hm : m = b.length) (hm2 : m ≤ 1000) (A : Option Addr) (c : Nat) (B : Option Addr) (d : Nat) (E : Int) (r : Rg) (hE : decX l b = (E, r)) (w : World) (hA : Ks w w.heap.size A l) (hB : Bs w w.heap.size b B d) : Calls Tryz.prog 15 #[.slice A n c, .slice B m d] w fun e w' => e = .returned (.tuple #[.agg #[.int .i64 r.t.ser, .int .i64 r.t.kind, .int .i64 r.t.frm, .int .i64 r.t.till, .int .i64 r.t.cls, .int .i64 r.t.card, .int .i64 r.t.seat, .int .i64 r.t.day, .int .i64 r.t.days, .int .i64 r.t.uses, .int .i64 r.t.epoch, .int .i64 r.key, .int .i64 r.left, .int .i64 r.inn, .int .i64 r.ver], .int .i64 E]) ∧ Below w.heap.size w w' := by
  cases h1 : isR l
  · exact rdec_a l n hn hn3 b m hm hm2 A c B d E r hE w hA hB h1
  · by_cases h2 : readE b = 0
    · by_cases h3 : (readL b).length < 10
      · exact rdec_c l n hn hn3 b m hm hm2 A c B d E r hE w hA hB h1 h2 h3
      · by_cases h4 : (lgetX (saidL (readL b))).1 = 0
        · by_cases h5 : findE l (lgetX (saidL (readL b))).2.key = 0
          · cases h6 : (tailL (readL b) == tagS (findK l (lgetX (saidL (readL b))).2.key).sec (saidL (readL b)))
            · exact rdec_f l n hn hn3 b m hm hm2 A c B d E r hE w hA hB h1 h2 h3 h4 h5 h6
            · exact rdec_g l n hn hn3 b m hm hm2 A c B d E r hE w hA hB h1 h2 h3 h4 h5 h6
          · exact rdec_e l n hn hn3 b m hm hm2 A c B d E r hE w hA hB h1 h2 h3 h4 h5
        · exact rdec_d l n hn hn3 b m hm hm2 A c B d E r hE w hA hB h1 h2 h3 h4
    · exact rdec_b l n hn hn3 b m hm hm2 A c B d E r hE w hA hB h1 h2
end Go.Proofs.YtpniolinndlepaaGreatDoor
