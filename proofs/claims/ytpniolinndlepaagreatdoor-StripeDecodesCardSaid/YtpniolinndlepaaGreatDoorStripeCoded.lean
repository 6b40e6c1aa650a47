/-
  The laws' constant check of layer 15, walked. Conditions: sha's tables hold what its text lays.
-/
import Derived.Test.YtpniolinndlepaaGreatDoorStripeConst
import Derived.Test.YtpniolinndlepaaGreatDoorStripePDec
namespace Go.Proofs.YtpniolinndlepaaGreatDoor
set_option linter.unusedVariables false
open Go.ChangeShapes Go.WideShapes Go.ChangeAt Go.RowKit

theorem res_tmp_row {fn : Func} {p q : Tmp} (h : fn.results = #[.tmp p, .cell q 28]) (tmps : Array Value) (w : World) (g : Nat) (cs : Array Value) (t : TypeId)
    (hq : tmps.getD q undef = .pointer (some ⟨g, 0, none⟩)) (hg : w.heap[g]? = some (.cells cs t (0, 0))) (hi : (Tryz.prog.info? 28).map (·.size) = some cs.size) :
    (results fn tmps).run Tryz.prog w = .ok (.tuple #[tmps.getD p undef, .agg cs]) w := by
  have hq' : tmps[q]?.getD undef = .pointer (some ⟨g, 0, none⟩) := by simpa using hq
  have h1 := run_loadVar_row (P := Tryz.prog) w g t 28 cs (0, 0) _ hg Tryz.underlying28 rfl hi
  simp [results, h, hq', asAddr, h1]
set_option maxRecDepth 100000 in
set_option maxHeartbeats 1600000 in
theorem plain15_any (w : World) : Calls Tryz.prog 31 #[] w fun e w' => ∃ g, e = .returned (.tuple #[.slice (some ⟨g, 0, none⟩) 1 1, .agg #[.int .i64 sr0.t.ser, .int .i64 sr0.t.kind, .int .i64 sr0.t.frm, .int .i64 sr0.t.till, .int .i64 sr0.t.cls, .int .i64 sr0.t.card, .int .i64 sr0.t.seat, .int .i64 sr0.t.day, .int .i64 sr0.t.days, .int .i64 sr0.t.uses, .int .i64 sr0.t.epoch, .int .i64 sr0.key, .int .i64 sr0.left, .int .i64 sr0.inn, .int .i64 sr0.ver]]) ∧ Ks w' w'.heap.size (some ⟨g, 0, none⟩) [sk1] ∧ Below w.heap.size w w' := by
  have HBL := Lib.hid (Below.refl w.heap.size w)
  go_enter Tryz.func31, Tryz.ntmps31
  go_wp2
  obtain ⟨wa, hwa⟩ : ∃ wa, wa = w.alloc (.cells #[.int .i64 42, .int .i64 1, .int .i64 3, .int .i64 20, .int .i64 2, .int .i64 0, .int .i64 0, .int .i64 10, .int .i64 1, .int .i64 1, .int .i64 0, .int .i64 5, .int .i64 1, .int .i64 0, .int .i64 0] 28) := ⟨_, rfl⟩
  have e1 : w.heap.size + 1 = wa.heap.size := by rw [hwa]; simp
  rw [← hwa, e1]
  obtain ⟨wb, hwb⟩ : ∃ wb, wb = wa.alloc (.cells #[.int .u8 1, .int .u8 2, .int .u8 3] 5) := ⟨_, rfl⟩
  have e2 : wa.heap.size + 1 = wb.heap.size := by rw [hwb]; simp
  rw [← hwb, e2]
  have hS : Bs wb wb.heap.size [1, 2, 3] (some ⟨wa.heap.size, 0, none⟩) 3 := by rw [hwb]; exact bs_lit wa _ [1, 2, 3] 3 rfl rfl (by omega) (by decide)
  obtain ⟨wc, hwc⟩ : ∃ wc, wc = wb.alloc (.cells #[.int .i64 5, .slice (some ⟨wa.heap.size, 0, none⟩) 3 3, .int .i64 0, .int .i64 99] 46) := ⟨_, rfl⟩
  rw [← hwc]
  have hK : Ks wc wc.heap.size (some ⟨wb.heap.size, 0, none⟩) [sk1] := by rw [hwc]; exact ks_lit wb [⟨sk1, some ⟨wa.heap.size, 0, none⟩, 3⟩] #[.int .i64 5, .slice (some ⟨wa.heap.size, 0, none⟩) 3 3, .int .i64 0, .int .i64 99] 1 rfl rfl (by omega) (by intro q hq; rw [List.mem_singleton] at hq; subst hq; exact hS)
  have hR : wc.heap[w.heap.size]? = some (.cells #[.int .i64 42, .int .i64 1, .int .i64 3, .int .i64 20, .int .i64 2, .int .i64 0, .int .i64 0, .int .i64 10, .int .i64 1, .int .i64 1, .int .i64 0, .int .i64 5, .int .i64 1, .int .i64 0, .int .i64 0] 28 (0, 0)) := by rw [hwc, heap_alloc_old _ _ (by omega), hwb, heap_alloc_old _ _ (by omega), hwa]; exact heap_alloc_new w _
  have b1 : Below w.heap.size w wa := by rw [hwa]; exact below_lit w _ _
  have b2 : Below wa.heap.size wa wb := by rw [hwb]; exact below_lit wa _ _
  have b3 : Below wb.heap.size wb wc := by rw [hwc]; exact below_lit wb _ _
  exact bodyPost_ret (res_tmp_row Tryz.results31 _ wc w.heap.size #[.int .i64 42, .int .i64 1, .int .i64 3, .int .i64 20, .int .i64 2, .int .i64 0, .int .i64 0, .int .i64 10, .int .i64 1, .int .i64 1, .int .i64 0, .int .i64 5, .int .i64 1, .int .i64 0, .int .i64 0] _ rfl hR infoRd) rfl ⟨wb.heap.size, rfl, hK, b1.trans ((b2.trans (b3.mono b2.size)).mono b1.size)⟩
theorem e1_call (A : Option Addr) (c : Nat) (w : World) (hT : Tabs w) (hA : Ks w w.heap.size A [sk1]) : Calls Tryz.prog 10 #[.slice A 1 c, .agg #[.int .i64 sr0.t.ser, .int .i64 sr0.t.kind, .int .i64 sr0.t.frm, .int .i64 sr0.t.till, .int .i64 sr0.t.cls, .int .i64 sr0.t.card, .int .i64 sr0.t.seat, .int .i64 sr0.t.day, .int .i64 sr0.t.days, .int .i64 sr0.t.uses, .int .i64 sr0.t.epoch, .int .i64 sr0.key, .int .i64 sr0.left, .int .i64 sr0.inn, .int .i64 sr0.ver]] w fun e w' => ∃ A' c', e = .returned (.tuple #[.slice A' 27 c', .int .i64 0]) ∧ Bs w' w'.heap.size sB A' c' ∧ Below w.heap.size w w' := penc_any [sk1] 1 rfl (by omega) A c sr0 sr0_in 0 sB s_enc w hT hA
theorem e0_call (w : World) (hT : Tabs w) : Calls Tryz.prog 10 #[.slice none 0 0, .agg #[.int .i64 sr0.t.ser, .int .i64 sr0.t.kind, .int .i64 sr0.t.frm, .int .i64 sr0.t.till, .int .i64 sr0.t.cls, .int .i64 sr0.t.card, .int .i64 sr0.t.seat, .int .i64 sr0.t.day, .int .i64 sr0.t.days, .int .i64 sr0.t.uses, .int .i64 sr0.t.epoch, .int .i64 sr0.key, .int .i64 sr0.left, .int .i64 sr0.inn, .int .i64 sr0.ver]] w fun e w' => ∃ A' c', e = .returned (.tuple #[.slice A' 0 c', .int .i64 10]) ∧ Bs w' w'.heap.size [] A' c' ∧ Below w.heap.size w w' := penc_any [] 0 rfl (by omega) none 0 sr0 sr0_in 10 [] s_enc0 w hT (fun i hi => absurd hi (by simp))
theorem d1_call (A : Option Addr) (c : Nat) (B : Option Addr) (d : Nat) (w : World) (hT : Tabs w) (hA : Ks w w.heap.size A [sk1]) (hB : Bs w w.heap.size sB B d) : Calls Tryz.prog 14 #[.slice A 1 c, .slice B 27 d] w fun e w' => e = .returned (.tuple #[.agg #[.int .i64 sr0.t.ser, .int .i64 sr0.t.kind, .int .i64 sr0.t.frm, .int .i64 sr0.t.till, .int .i64 sr0.t.cls, .int .i64 sr0.t.card, .int .i64 sr0.t.seat, .int .i64 sr0.t.day, .int .i64 sr0.t.days, .int .i64 sr0.t.uses, .int .i64 sr0.t.epoch, .int .i64 sr0.key, .int .i64 sr0.left, .int .i64 sr0.inn, .int .i64 sr0.ver], .int .i64 0]) ∧ Below w.heap.size w w' := pdec_any [sk1] 1 rfl (by omega) sB 27 rfl (by omega) A c B d 0 sr0 s_dec w hT hA hB
theorem dt_call (A : Option Addr) (c : Nat) (B : Option Addr) (d : Nat) (w : World) (hT : Tabs w) (hA : Ks w w.heap.size A [sk1]) (hB : Bs w w.heap.size sBt B d) : Calls Tryz.prog 14 #[.slice A 1 c, .slice B 27 d] w fun e w' => e = .returned (.tuple #[.agg #[.int .i64 sr0.t.ser, .int .i64 sr0.t.kind, .int .i64 sr0.t.frm, .int .i64 sr0.t.till, .int .i64 sr0.t.cls, .int .i64 sr0.t.card, .int .i64 sr0.t.seat, .int .i64 sr0.t.day, .int .i64 sr0.t.days, .int .i64 sr0.t.uses, .int .i64 sr0.t.epoch, .int .i64 sr0.key, .int .i64 sr0.left, .int .i64 sr0.inn, .int .i64 sr0.ver], .int .i64 0]) ∧ Below w.heap.size w w' := pdec_any [sk1] 1 rfl (by omega) sBt 27 rfl (by omega) A c B d 0 sr0 s_dect w hT hA hB
theorem d2_call (A : Option Addr) (c : Nat) (B : Option Addr) (d : Nat) (w : World) (hT : Tabs w) (hA : Ks w w.heap.size A [sk2]) (hB : Bs w w.heap.size sB B d) : Calls Tryz.prog 14 #[.slice A 1 c, .slice B 27 d] w fun e w' => e = .returned (.tuple #[.agg #[.int .i64 0, .int .i64 0, .int .i64 0, .int .i64 0, .int .i64 0, .int .i64 0, .int .i64 0, .int .i64 0, .int .i64 0, .int .i64 0, .int .i64 0, .int .i64 0, .int .i64 0, .int .i64 0, .int .i64 0], .int .i64 11]) ∧ Below w.heap.size w w' := pdec_any [sk2] 1 rfl (by omega) sB 27 rfl (by omega) A c B d 11 zeroR s_dec2 w hT hA hB
theorem d0_call (B : Option Addr) (d : Nat) (w : World) (hT : Tabs w) (hB : Bs w w.heap.size sB B d) : Calls Tryz.prog 14 #[.slice none 0 0, .slice B 27 d] w fun e w' => e = .returned (.tuple #[.agg #[.int .i64 0, .int .i64 0, .int .i64 0, .int .i64 0, .int .i64 0, .int .i64 0, .int .i64 0, .int .i64 0, .int .i64 0, .int .i64 0, .int .i64 0, .int .i64 0, .int .i64 0, .int .i64 0, .int .i64 0], .int .i64 10]) ∧ Below w.heap.size w w' := pdec_any [] 0 rfl (by omega) sB 27 rfl (by omega) none 0 B d 10 zeroR s_dec0 w hT (fun i hi => absurd hi (by simp)) hB
theorem d9_call (A : Option Addr) (c : Nat) (w : World) (hT : Tabs w) (hA : Ks w w.heap.size A [sk1]) : Calls Tryz.prog 14 #[.slice A 1 c, .slice none 0 0] w fun e w' => e = .returned (.tuple #[.agg #[.int .i64 0, .int .i64 0, .int .i64 0, .int .i64 0, .int .i64 0, .int .i64 0, .int .i64 0, .int .i64 0, .int .i64 0, .int .i64 0, .int .i64 0, .int .i64 0, .int .i64 0, .int .i64 0, .int .i64 0], .int .i64 14]) ∧ Below w.heap.size w w' := pdec_any [sk1] 1 rfl (by omega) [] 0 rfl (by omega) A c none 0 14 zeroR s_dec9 w hT hA (bs_nil _ _)
set_option maxRecDepth 100000 in
set_option maxHeartbeats 1600000 in
theorem coded_any (w : World) (hT : Tabs w) : Calls Tryz.prog 12 #[] w fun e w' => e = .returned (.bool true) ∧ Below w.heap.size w w' := by
  have HT := Lib.hid hT
  clear hT
  have HBL := Lib.hid (Below.refl w.heap.size w)
  go_enter Tryz.func12, Tryz.ntmps12
  go_wp2_with fail
  refine (plain15_any w).mono ?_
  rintro e w1 ⟨g, rfl, hs, hb⟩
  replace HT := Lib.hid (HT.out.next hb)
  replace HBL := Lib.hid (HBL.out.trans (hb.mono HBL.out.size))
  have HK := Lib.hid hs
  clear hb hs
  go_wp2_with fail
  obtain ⟨w2, hw⟩ : ∃ w2, w2 = w1.alloc (.cells #[.int .i64 sr0.t.ser, .int .i64 sr0.t.kind, .int .i64 sr0.t.frm, .int .i64 sr0.t.till, .int .i64 sr0.t.cls, .int .i64 sr0.t.card, .int .i64 sr0.t.seat, .int .i64 sr0.t.day, .int .i64 sr0.t.days, .int .i64 sr0.t.uses, .int .i64 sr0.t.epoch, .int .i64 sr0.key, .int .i64 sr0.left, .int .i64 sr0.inn, .int .i64 sr0.ver] 28) := ⟨_, rfl⟩
  rw [← hw]
  have hx : RBox w2 w1.heap.size sr0 := by rw [hw]; exact RBox.new w1 sr0
  have hb : Below w1.heap.size w1 w2 := by rw [hw]; exact below_lit w1 _ _
  replace HT := Lib.hid (HT.out.next hb)
  replace HK := Lib.hid (HK.out.next hb)
  replace HBL := Lib.hid (HBL.out.trans (hb.mono HBL.out.size))
  have X1 := Lib.hid hx
  clear hx hb hw
  obtain ⟨B1, hB⟩ : ∃ B, B = w1.heap.size := ⟨_, rfl⟩
  rw [← hB] at X1 ⊢
  clear hB
  obtain ⟨c0, c1, c2, c3, c4, c5, c6, c7, c8, c9, c10, c11, c12, c13, c14⟩ := X1.out.cells
  refine (e1_call _ 1 w2 HT.out HK.out).mono ?_
  rintro e w3 ⟨AE1, cE1, rfl, hs, hb⟩
  clear c0 c1 c2 c3 c4 c5 c6 c7 c8 c9 c10 c11 c12 c13 c14
  replace HT := Lib.hid (HT.out.next hb)
  replace HK := Lib.hid (HK.out.next hb)
  replace X1 := Lib.hid (X1.out.next hb)
  replace HBL := Lib.hid (HBL.out.trans (hb.mono HBL.out.size))
  have E1 := Lib.hid hs
  clear hb hs
  generalize Value.agg #[.int .i64 sr0.t.ser, .int .i64 sr0.t.kind, .int .i64 sr0.t.frm, .int .i64 sr0.t.till, .int .i64 sr0.t.cls, .int .i64 sr0.t.card, .int .i64 sr0.t.seat, .int .i64 sr0.t.day, .int .i64 sr0.t.days, .int .i64 sr0.t.uses, .int .i64 sr0.t.epoch, .int .i64 sr0.key, .int .i64 sr0.left, .int .i64 sr0.inn, .int .i64 sr0.ver] = V1
  go_wp2_with fail
  refine (d1_call _ 1 AE1 cE1 w3 HT.out HK.out E1.out).mono ?_
  rintro e w4 ⟨rfl, hb⟩
  replace HT := Lib.hid (HT.out.next hb)
  replace HK := Lib.hid (HK.out.next hb)
  replace X1 := Lib.hid (X1.out.next hb)
  replace E1 := Lib.hid (E1.out.next hb)
  replace HBL := Lib.hid (HBL.out.trans (hb.mono HBL.out.size))
  clear hb
  go_wp2_with fail
  obtain ⟨w5, hw⟩ : ∃ w5, w5 = w4.alloc (.cells #[.int .i64 sr0.t.ser, .int .i64 sr0.t.kind, .int .i64 sr0.t.frm, .int .i64 sr0.t.till, .int .i64 sr0.t.cls, .int .i64 sr0.t.card, .int .i64 sr0.t.seat, .int .i64 sr0.t.day, .int .i64 sr0.t.days, .int .i64 sr0.t.uses, .int .i64 sr0.t.epoch, .int .i64 sr0.key, .int .i64 sr0.left, .int .i64 sr0.inn, .int .i64 sr0.ver] 28) := ⟨_, rfl⟩
  rw [← hw]
  have hx : RBox w5 w4.heap.size sr0 := by rw [hw]; exact RBox.new w4 sr0
  have hb : Below w4.heap.size w4 w5 := by rw [hw]; exact below_lit w4 _ _
  replace HT := Lib.hid (HT.out.next hb)
  replace HK := Lib.hid (HK.out.next hb)
  replace X1 := Lib.hid (X1.out.next hb)
  replace E1 := Lib.hid (E1.out.next hb)
  replace HBL := Lib.hid (HBL.out.trans (hb.mono HBL.out.size))
  have X5 := Lib.hid hx
  clear hx hb hw
  obtain ⟨B5, hB⟩ : ∃ B, B = w4.heap.size := ⟨_, rfl⟩
  rw [← hB] at X5 ⊢
  clear hB
  generalize Value.agg #[.int .i64 sr0.t.ser, .int .i64 sr0.t.kind, .int .i64 sr0.t.frm, .int .i64 sr0.t.till, .int .i64 sr0.t.cls, .int .i64 sr0.t.card, .int .i64 sr0.t.seat, .int .i64 sr0.t.day, .int .i64 sr0.t.days, .int .i64 sr0.t.uses, .int .i64 sr0.t.epoch, .int .i64 sr0.key, .int .i64 sr0.left, .int .i64 sr0.inn, .int .i64 sr0.ver] = V2
  refine (pturn_any sB 27 rfl (by omega) AE1 cE1 w5 E1.out).mono ?_
  rintro e w6 ⟨AT1, cT1, rfl, hs, hb⟩
  replace HT := Lib.hid (HT.out.next hb)
  replace HK := Lib.hid (HK.out.next hb)
  replace X1 := Lib.hid (X1.out.next hb)
  replace E1 := Lib.hid (E1.out.next hb)
  replace X5 := Lib.hid (X5.out.next hb)
  replace HBL := Lib.hid (HBL.out.trans (hb.mono HBL.out.size))
  have T1 := Lib.hid hs
  clear hb hs
  rw [s_bt] at T1
  go_wp2_with fail
  refine (dt_call _ 1 AT1 cT1 w6 HT.out HK.out T1.out).mono ?_
  rintro e w7 ⟨rfl, hb⟩
  replace HT := Lib.hid (HT.out.next hb)
  replace HK := Lib.hid (HK.out.next hb)
  replace X1 := Lib.hid (X1.out.next hb)
  replace E1 := Lib.hid (E1.out.next hb)
  replace X5 := Lib.hid (X5.out.next hb)
  replace T1 := Lib.hid (T1.out.next hb)
  replace HBL := Lib.hid (HBL.out.trans (hb.mono HBL.out.size))
  clear hb
  go_wp2_with fail
  obtain ⟨w8, hw⟩ : ∃ w8, w8 = w7.alloc (.cells #[.int .i64 sr0.t.ser, .int .i64 sr0.t.kind, .int .i64 sr0.t.frm, .int .i64 sr0.t.till, .int .i64 sr0.t.cls, .int .i64 sr0.t.card, .int .i64 sr0.t.seat, .int .i64 sr0.t.day, .int .i64 sr0.t.days, .int .i64 sr0.t.uses, .int .i64 sr0.t.epoch, .int .i64 sr0.key, .int .i64 sr0.left, .int .i64 sr0.inn, .int .i64 sr0.ver] 28) := ⟨_, rfl⟩
  rw [← hw]
  have hx : RBox w8 w7.heap.size sr0 := by rw [hw]; exact RBox.new w7 sr0
  have hs : w7.heap.size + 1 = w8.heap.size := by rw [hw]; simp
  have hb : Below w7.heap.size w7 w8 := by rw [hw]; exact below_lit w7 _ _
  replace HT := Lib.hid (HT.out.next hb)
  replace HK := Lib.hid (HK.out.next hb)
  replace X1 := Lib.hid (X1.out.next hb)
  replace E1 := Lib.hid (E1.out.next hb)
  replace X5 := Lib.hid (X5.out.next hb)
  replace T1 := Lib.hid (T1.out.next hb)
  replace HBL := Lib.hid (HBL.out.trans (hb.mono HBL.out.size))
  have X7 := Lib.hid hx
  clear hx hb hw
  rw [hs]
  clear hs
  obtain ⟨B7, hB⟩ : ∃ B, B = w7.heap.size := ⟨_, rfl⟩
  rw [← hB] at X7 ⊢
  clear hB
  obtain ⟨w9, hw⟩ : ∃ w9, w9 = w8.alloc (.cells #[.int .u8 1, .int .u8 2, .int .u8 4] 5) := ⟨_, rfl⟩
  have hs : w8.heap.size + 1 = w9.heap.size := by rw [hw]; simp
  rw [← hw]
  have hx : Bs w9 w9.heap.size [1, 2, 4] (some ⟨w8.heap.size, 0, none⟩) 3 := by rw [hw]; exact bs_lit w8 _ [1, 2, 4] 3 rfl rfl (by omega) (by decide)
  have hb : Below w8.heap.size w8 w9 := by rw [hw]; exact below_lit w8 _ _
  replace HT := Lib.hid (HT.out.next hb)
  replace HK := Lib.hid (HK.out.next hb)
  replace X1 := Lib.hid (X1.out.next hb)
  replace E1 := Lib.hid (E1.out.next hb)
  replace X5 := Lib.hid (X5.out.next hb)
  replace T1 := Lib.hid (T1.out.next hb)
  replace X7 := Lib.hid (X7.out.next hb)
  replace HBL := Lib.hid (HBL.out.trans (hb.mono HBL.out.size))
  have LR := Lib.hid hx
  clear hx hb hw
  rw [hs]
  clear hs
  obtain ⟨w10, hw⟩ : ∃ w10, w10 = w9.alloc (.cells #[.int .i64 5, .slice (some ⟨w8.heap.size, 0, none⟩) 3 3, .int .i64 0, .int .i64 99] 46) := ⟨_, rfl⟩
  rw [← hw]
  have hx : Ks w10 w10.heap.size (some ⟨w9.heap.size, 0, none⟩) [sk2] := by rw [hw]; exact ks_lit w9 [⟨sk2, some ⟨w8.heap.size, 0, none⟩, 3⟩] #[.int .i64 5, .slice (some ⟨w8.heap.size, 0, none⟩) 3 3, .int .i64 0, .int .i64 99] 1 rfl rfl (by omega) (by intro q hq; rw [List.mem_singleton] at hq; subst hq; exact LR.out)
  have hb : Below w9.heap.size w9 w10 := by rw [hw]; exact below_lit w9 _ _
  replace HT := Lib.hid (HT.out.next hb)
  replace HK := Lib.hid (HK.out.next hb)
  replace X1 := Lib.hid (X1.out.next hb)
  replace E1 := Lib.hid (E1.out.next hb)
  replace X5 := Lib.hid (X5.out.next hb)
  replace T1 := Lib.hid (T1.out.next hb)
  replace X7 := Lib.hid (X7.out.next hb)
  replace LR := Lib.hid (LR.out.next hb)
  replace HBL := Lib.hid (HBL.out.trans (hb.mono HBL.out.size))
  have HK2 := Lib.hid hx
  clear hx hb hw
  generalize Value.agg #[.int .i64 sr0.t.ser, .int .i64 sr0.t.kind, .int .i64 sr0.t.frm, .int .i64 sr0.t.till, .int .i64 sr0.t.cls, .int .i64 sr0.t.card, .int .i64 sr0.t.seat, .int .i64 sr0.t.day, .int .i64 sr0.t.days, .int .i64 sr0.t.uses, .int .i64 sr0.t.epoch, .int .i64 sr0.key, .int .i64 sr0.left, .int .i64 sr0.inn, .int .i64 sr0.ver] = V3
  refine (d2_call _ 1 AE1 cE1 w10 HT.out HK2.out E1.out).mono ?_
  rintro e w11 ⟨rfl, hb⟩
  replace HT := Lib.hid (HT.out.next hb)
  replace HK := Lib.hid (HK.out.next hb)
  replace X1 := Lib.hid (X1.out.next hb)
  replace E1 := Lib.hid (E1.out.next hb)
  replace X5 := Lib.hid (X5.out.next hb)
  replace T1 := Lib.hid (T1.out.next hb)
  replace X7 := Lib.hid (X7.out.next hb)
  replace LR := Lib.hid (LR.out.next hb)
  replace HK2 := Lib.hid (HK2.out.next hb)
  replace HBL := Lib.hid (HBL.out.trans (hb.mono HBL.out.size))
  clear hb
  go_wp2_with fail
  obtain ⟨w12, hw⟩ : ∃ w12, w12 = w11.alloc (.cells #[.int .i64 0, .int .i64 0, .int .i64 0, .int .i64 0, .int .i64 0, .int .i64 0, .int .i64 0, .int .i64 0, .int .i64 0, .int .i64 0, .int .i64 0, .int .i64 0, .int .i64 0, .int .i64 0, .int .i64 0] 28) := ⟨_, rfl⟩
  rw [← hw]
  have hx : RBox w12 w11.heap.size zeroR := by rw [hw]; exact RBox.new w11 zeroR
  have hb : Below w11.heap.size w11 w12 := by rw [hw]; exact below_lit w11 _ _
  replace HT := Lib.hid (HT.out.next hb)
  replace HK := Lib.hid (HK.out.next hb)
  replace X1 := Lib.hid (X1.out.next hb)
  replace E1 := Lib.hid (E1.out.next hb)
  replace X5 := Lib.hid (X5.out.next hb)
  replace T1 := Lib.hid (T1.out.next hb)
  replace X7 := Lib.hid (X7.out.next hb)
  replace LR := Lib.hid (LR.out.next hb)
  replace HK2 := Lib.hid (HK2.out.next hb)
  replace HBL := Lib.hid (HBL.out.trans (hb.mono HBL.out.size))
  have X9 := Lib.hid hx
  clear hx hb hw
  obtain ⟨B9, hB⟩ : ∃ B, B = w11.heap.size := ⟨_, rfl⟩
  rw [← hB] at X9 ⊢
  clear hB
  generalize Value.agg #[.int .i64 0, .int .i64 0, .int .i64 0, .int .i64 0, .int .i64 0, .int .i64 0, .int .i64 0, .int .i64 0, .int .i64 0, .int .i64 0, .int .i64 0, .int .i64 0, .int .i64 0, .int .i64 0, .int .i64 0] = V4
  refine (d0_call AE1 cE1 w12 HT.out E1.out).mono ?_
  rintro e w13 ⟨rfl, hb⟩
  replace HT := Lib.hid (HT.out.next hb)
  replace HK := Lib.hid (HK.out.next hb)
  replace X1 := Lib.hid (X1.out.next hb)
  replace E1 := Lib.hid (E1.out.next hb)
  replace X5 := Lib.hid (X5.out.next hb)
  replace T1 := Lib.hid (T1.out.next hb)
  replace X7 := Lib.hid (X7.out.next hb)
  replace LR := Lib.hid (LR.out.next hb)
  replace HK2 := Lib.hid (HK2.out.next hb)
  replace X9 := Lib.hid (X9.out.next hb)
  replace HBL := Lib.hid (HBL.out.trans (hb.mono HBL.out.size))
  clear hb
  have X1a := Lib.hid (X1.out.alloc (.cells #[.int .i64 0, .int .i64 0, .int .i64 0, .int .i64 0, .int .i64 0, .int .i64 0, .int .i64 0, .int .i64 0, .int .i64 0, .int .i64 0, .int .i64 0, .int .i64 0, .int .i64 0, .int .i64 0, .int .i64 0] 28))
  obtain ⟨c0, c1, c2, c3, c4, c5, c6, c7, c8, c9, c10, c11, c12, c13, c14⟩ := X1a.out.cells
  go_wp2_with fail
  obtain ⟨w14, hw⟩ : ∃ w14, w14 = w13.alloc (.cells #[.int .i64 0, .int .i64 0, .int .i64 0, .int .i64 0, .int .i64 0, .int .i64 0, .int .i64 0, .int .i64 0, .int .i64 0, .int .i64 0, .int .i64 0, .int .i64 0, .int .i64 0, .int .i64 0, .int .i64 0] 28) := ⟨_, rfl⟩
  rw [← hw]
  have hx : RBox w14 w13.heap.size zeroR := by rw [hw]; exact RBox.new w13 zeroR
  have hb : Below w13.heap.size w13 w14 := by rw [hw]; exact below_lit w13 _ _
  clear c0 c1 c2 c3 c4 c5 c6 c7 c8 c9 c10 c11 c12 c13 c14
  replace HT := Lib.hid (HT.out.next hb)
  replace HK := Lib.hid (HK.out.next hb)
  replace X1 := Lib.hid (X1.out.next hb)
  replace E1 := Lib.hid (E1.out.next hb)
  replace X5 := Lib.hid (X5.out.next hb)
  replace T1 := Lib.hid (T1.out.next hb)
  replace X7 := Lib.hid (X7.out.next hb)
  replace LR := Lib.hid (LR.out.next hb)
  replace HK2 := Lib.hid (HK2.out.next hb)
  replace X9 := Lib.hid (X9.out.next hb)
  replace HBL := Lib.hid (HBL.out.trans (hb.mono HBL.out.size))
  have X11 := Lib.hid hx
  clear hx hb hw
  obtain ⟨B11, hB⟩ : ∃ B, B = w13.heap.size := ⟨_, rfl⟩
  rw [← hB] at X11 ⊢
  clear hB
  generalize Value.agg #[.int .i64 0, .int .i64 0, .int .i64 0, .int .i64 0, .int .i64 0, .int .i64 0, .int .i64 0, .int .i64 0, .int .i64 0, .int .i64 0, .int .i64 0, .int .i64 0, .int .i64 0, .int .i64 0, .int .i64 0] = V5
  refine (e0_call w14 HT.out).mono ?_
  rintro e w15 ⟨AE0, cE0, rfl, hs, hb⟩
  replace HT := Lib.hid (HT.out.next hb)
  replace HK := Lib.hid (HK.out.next hb)
  replace X1 := Lib.hid (X1.out.next hb)
  replace E1 := Lib.hid (E1.out.next hb)
  replace X5 := Lib.hid (X5.out.next hb)
  replace T1 := Lib.hid (T1.out.next hb)
  replace X7 := Lib.hid (X7.out.next hb)
  replace LR := Lib.hid (LR.out.next hb)
  replace HK2 := Lib.hid (HK2.out.next hb)
  replace X9 := Lib.hid (X9.out.next hb)
  replace X11 := Lib.hid (X11.out.next hb)
  replace HBL := Lib.hid (HBL.out.trans (hb.mono HBL.out.size))
  have E0 := Lib.hid hs
  clear hb hs
  generalize Value.agg #[.int .i64 sr0.t.ser, .int .i64 sr0.t.kind, .int .i64 sr0.t.frm, .int .i64 sr0.t.till, .int .i64 sr0.t.cls, .int .i64 sr0.t.card, .int .i64 sr0.t.seat, .int .i64 sr0.t.day, .int .i64 sr0.t.days, .int .i64 sr0.t.uses, .int .i64 sr0.t.epoch, .int .i64 sr0.key, .int .i64 sr0.left, .int .i64 sr0.inn, .int .i64 sr0.ver] = V6
  go_wp2_with fail
  refine (d9_call _ 1 w15 HT.out HK.out).mono ?_
  rintro e w16 ⟨rfl, hb⟩
  replace HT := Lib.hid (HT.out.next hb)
  replace HK := Lib.hid (HK.out.next hb)
  replace X1 := Lib.hid (X1.out.next hb)
  replace E1 := Lib.hid (E1.out.next hb)
  replace X5 := Lib.hid (X5.out.next hb)
  replace T1 := Lib.hid (T1.out.next hb)
  replace X7 := Lib.hid (X7.out.next hb)
  replace LR := Lib.hid (LR.out.next hb)
  replace HK2 := Lib.hid (HK2.out.next hb)
  replace X9 := Lib.hid (X9.out.next hb)
  replace X11 := Lib.hid (X11.out.next hb)
  replace E0 := Lib.hid (E0.out.next hb)
  replace HBL := Lib.hid (HBL.out.trans (hb.mono HBL.out.size))
  clear hb
  have X5a := Lib.hid (X5.out.alloc (.cells #[.int .i64 0, .int .i64 0, .int .i64 0, .int .i64 0, .int .i64 0, .int .i64 0, .int .i64 0, .int .i64 0, .int .i64 0, .int .i64 0, .int .i64 0, .int .i64 0, .int .i64 0, .int .i64 0, .int .i64 0] 28))
  obtain ⟨c0, c1, c2, c3, c4, c5, c6, c7, c8, c9, c10, c11, c12, c13, c14⟩ := X5a.out.cells
  have X1b := Lib.hid (X1.out.alloc (.cells #[.int .i64 0, .int .i64 0, .int .i64 0, .int .i64 0, .int .i64 0, .int .i64 0, .int .i64 0, .int .i64 0, .int .i64 0, .int .i64 0, .int .i64 0, .int .i64 0, .int .i64 0, .int .i64 0, .int .i64 0] 28))
  obtain ⟨d0, d1, d2, d3, d4, d5, d6, d7, d8, d9, d10, d11, d12, d13, d14⟩ := X1b.out.cells
  have X7a := Lib.hid (X7.out.alloc (.cells #[.int .i64 0, .int .i64 0, .int .i64 0, .int .i64 0, .int .i64 0, .int .i64 0, .int .i64 0, .int .i64 0, .int .i64 0, .int .i64 0, .int .i64 0, .int .i64 0, .int .i64 0, .int .i64 0, .int .i64 0] 28))
  obtain ⟨f0, f1, f2, f3, f4, f5, f6, f7, f8, f9, f10, f11, f12, f13, f14⟩ := X7a.out.cells
  have heq := read_eq sr0 sr0
  rw [rgB_self] at heq
  as_aux_lemma =>
    go_wp2_with fail
    obtain ⟨w17, hw⟩ : ∃ w17, w17 = w16.alloc (.cells #[.int .i64 0, .int .i64 0, .int .i64 0, .int .i64 0, .int .i64 0, .int .i64 0, .int .i64 0, .int .i64 0, .int .i64 0, .int .i64 0, .int .i64 0, .int .i64 0, .int .i64 0, .int .i64 0, .int .i64 0] 28) := ⟨_, rfl⟩
    rw [← hw]
    have hx : RBox w17 w16.heap.size zeroR := by rw [hw]; exact RBox.new w16 zeroR
    have hs : w16.heap.size + 1 = w17.heap.size := by rw [hw]; simp
    have hb : Below w16.heap.size w16 w17 := by rw [hw]; exact below_lit w16 _ _
    clear c0 c1 c2 c3 c4 c5 c6 c7 c8 c9 c10 c11 c12 c13 c14 d0 d1 d2 d3 d4 d5 d6 d7 d8 d9 d10 d11 d12 d13 d14 f0 f1 f2 f3 f4 f5 f6 f7 f8 f9 f10 f11 f12 f13 f14
    replace HT := Lib.hid (HT.out.next hb)
    replace HK := Lib.hid (HK.out.next hb)
    replace X1 := Lib.hid (X1.out.next hb)
    replace E1 := Lib.hid (E1.out.next hb)
    replace X5 := Lib.hid (X5.out.next hb)
    replace T1 := Lib.hid (T1.out.next hb)
    replace X7 := Lib.hid (X7.out.next hb)
    replace LR := Lib.hid (LR.out.next hb)
    replace HK2 := Lib.hid (HK2.out.next hb)
    replace X9 := Lib.hid (X9.out.next hb)
    replace X11 := Lib.hid (X11.out.next hb)
    replace E0 := Lib.hid (E0.out.next hb)
    replace HBL := Lib.hid (HBL.out.trans (hb.mono HBL.out.size))
    have X15 := Lib.hid hx
    clear hx hb hw
    rw [hs]
    clear hs
    obtain ⟨B15, hB⟩ : ∃ B, B = w16.heap.size := ⟨_, rfl⟩
    rw [← hB] at X15 ⊢
    clear hB
    obtain ⟨w18, hw⟩ : ∃ w18, w18 = w17.alloc (.cells #[.int .u8 1] 5) := ⟨_, rfl⟩
    have hs : w17.heap.size + 1 = w18.heap.size := by rw [hw]; simp
    rw [← hw]
    have hx : Bs w18 w18.heap.size [1] (some ⟨w17.heap.size, 0, none⟩) 1 := by rw [hw]; exact bs_lit w17 _ [1] 1 rfl rfl (by omega) (by decide)
    have hb : Below w17.heap.size w17 w18 := by rw [hw]; exact below_lit w17 _ _
    replace HT := Lib.hid (HT.out.next hb)
    replace HK := Lib.hid (HK.out.next hb)
    replace X1 := Lib.hid (X1.out.next hb)
    replace E1 := Lib.hid (E1.out.next hb)
    replace X5 := Lib.hid (X5.out.next hb)
    replace T1 := Lib.hid (T1.out.next hb)
    replace X7 := Lib.hid (X7.out.next hb)
    replace LR := Lib.hid (LR.out.next hb)
    replace HK2 := Lib.hid (HK2.out.next hb)
    replace X9 := Lib.hid (X9.out.next hb)
    replace X11 := Lib.hid (X11.out.next hb)
    replace E0 := Lib.hid (E0.out.next hb)
    replace X15 := Lib.hid (X15.out.next hb)
    replace HBL := Lib.hid (HBL.out.trans (hb.mono HBL.out.size))
    have LT := Lib.hid hx
    clear hx hb hw
    clear hs heq
    refine (ptag_any [1] [] 1 0 rfl rfl _ none 1 0 w18 HT.out LT.out (bs_nil _ _) (by omega) (by omega) (tagS [1] []) rfl).mono ?_
    rintro e w19 ⟨g9, cap, rfl, hs, hb⟩
    replace HT := Lib.hid (HT.out.next hb)
    replace HK := Lib.hid (HK.out.next hb)
    replace X1 := Lib.hid (X1.out.next hb)
    replace E1 := Lib.hid (E1.out.next hb)
    replace X5 := Lib.hid (X5.out.next hb)
    replace T1 := Lib.hid (T1.out.next hb)
    replace X7 := Lib.hid (X7.out.next hb)
    replace LR := Lib.hid (LR.out.next hb)
    replace HK2 := Lib.hid (HK2.out.next hb)
    replace X9 := Lib.hid (X9.out.next hb)
    replace X11 := Lib.hid (X11.out.next hb)
    replace E0 := Lib.hid (E0.out.next hb)
    replace X15 := Lib.hid (X15.out.next hb)
    replace LT := Lib.hid (LT.out.next hb)
    replace HBL := Lib.hid (HBL.out.trans (hb.mono HBL.out.size))
    have GT := Lib.hid hs
    clear hb hs
    go_wp2
    go_ret
    exact ⟨rfl, HBL.out⟩
end Go.Proofs.YtpniolinndlepaaGreatDoor
