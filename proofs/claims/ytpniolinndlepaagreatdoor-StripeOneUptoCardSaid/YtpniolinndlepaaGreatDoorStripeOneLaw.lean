/-
  Law StripeOne walked: it answers true. Conditions: the slices read as keys and bytes, at most 1048576 bytes; sha's tables hold what its text lays.
-/
import Derived.Test.YtpniolinndlepaaGreatDoorStripeCoded
namespace Go.Proofs.YtpniolinndlepaaGreatDoor
set_option linter.unusedVariables false
open Go.ChangeShapes Go.WideShapes Go.ChangeAt Go.RowKit

theorem sput_in {r : Rg} {p : List Nat} (h : lputX r = (0, p)) : InR r := by
  obtain ⟨ha, hf, _⟩ := lput_ok h
  obtain ⟨ho, hs, h1, h2, h3⟩ := (argB_iff r).1 ha
  obtain ⟨h4, h5⟩ := (fitB_iff r).1 hf
  obtain ⟨n1, n2, n3, n4⟩ := (okT_iff r.t).1 ho
  have m1 := (numsB_iff r.t).1 n1
  have m2 := (daysB_iff r.t).1 n2
  have m4 := (suitB_iff _ _ _).1 hs
  have hu := uses_of ho
  have m5 : 0 ≤ r.t.uses ∧ r.t.uses ≤ 20 := by
    by_cases hk : r.t.kind = 4
    · have := hu.1 hk; omega
    · rw [hu.2 hk]
      rcases (show r.t.kind = 1 ∨ r.t.kind = 2 ∨ r.t.kind = 3 by omega) with h | h | h <;> rw [h] <;> decide
  have m6 : 0 ≤ r.t.frm ∧ r.t.frm ≤ 39 ∧ 0 ≤ r.t.till ∧ r.t.till ≤ 39 := by
    by_cases hk : r.t.kind = 3
    · have := zones_of ho hk; omega
    · obtain ⟨w1, w2, _⟩ := way_of ho hk
      have := (isN_iff _).1 w1
      have := (isN_iff _).1 w2
      omega
  intro x hx
  unfold rgL at hx
  simp only [List.mem_cons, List.not_mem_nil, or_false] at hx
  rcases hx with rfl | rfl | rfl | rfl | rfl | rfl | rfl | rfl | rfl | rfl | rfl | rfl | rfl | rfl | rfl <;> (unfold In64; omega)
set_option maxRecDepth 100000 in
set_option maxHeartbeats 1600000 in
theorem one15_a (l : List K) (n : Nat) (hn : n = l.length) (hn3 : n ≤ 9223372036854775807) (A : Option Addr) (c : Nat) (b : List Nat) (m : Nat) (hm : m = b.length) (hm2 : m ≤ 1048576) (B : Option Addr) (d : Nat) (E : Int) (r : Rg) (hE : decX l b = (E, r)) (hbig : bigR l = true)  (w : World) (hT : Tabs w) (hA : Ks w w.heap.size A l) (hB : Bs w w.heap.size b B d) : Calls Tryz.prog 7 #[.slice A n c, .slice B m d] w fun e w' => e = .returned (.bool true) ∧ Below w.heap.size w w' := by
  have HE := Lib.hid hE
  have HBIG := Lib.hid hbig
  clear hE hbig
  have HN := Lib.hid hn
  have HM := Lib.hid hm
  have HT := Lib.hid hT
  have HA := Lib.hid hA
  have HB := Lib.hid hB
  clear hn hm hT hA hB
  have HBL := Lib.hid (Below.refl w.heap.size w)
  go_enter Tryz.func7, Tryz.ntmps7
  go_wp2_with fail
  refine (pdec_any l n HN.out hn3 b m HM.out hm2 A c B d E r HE.out w HT.out HA.out HB.out).mono ?_
  rintro e w1 ⟨rfl, hb⟩
  replace HT := Lib.hid (HT.out.next hb)
  replace HA := Lib.hid (HA.out.next hb)
  replace HB := Lib.hid (HB.out.next hb)
  replace HBL := Lib.hid (HBL.out.trans (hb.mono HBL.out.size))
  clear hb
  go_wp2_with fail
  obtain ⟨w2, hw⟩ : ∃ w2, w2 = w1.alloc (.cells #[.int .i64 r.t.ser, .int .i64 r.t.kind, .int .i64 r.t.frm, .int .i64 r.t.till, .int .i64 r.t.cls, .int .i64 r.t.card, .int .i64 r.t.seat, .int .i64 r.t.day, .int .i64 r.t.days, .int .i64 r.t.uses, .int .i64 r.t.epoch, .int .i64 r.key, .int .i64 r.left, .int .i64 r.inn, .int .i64 r.ver] 28) := ⟨_, rfl⟩
  rw [← hw]
  have hx : RBox w2 w1.heap.size r := by rw [hw]; exact RBox.new w1 r
  have hb : Below w1.heap.size w1 w2 := by rw [hw]; exact below_lit w1 _ _
  replace HT := Lib.hid (HT.out.next hb)
  replace HA := Lib.hid (HA.out.next hb)
  replace HB := Lib.hid (HB.out.next hb)
  replace HBL := Lib.hid (HBL.out.trans (hb.mono HBL.out.size))
  have X1 := Lib.hid hx
  clear hx hb hw
  obtain ⟨B1, hB⟩ : ∃ B, B = w1.heap.size := ⟨_, rfl⟩
  rw [← hB] at X1 ⊢
  clear hB
  refine (refbig_named l n HN.out true HBIG.out A c w2 HA.out hn3).mono ?_
  rintro e w3 ⟨rfl, hb⟩
  replace HT := Lib.hid (HT.out.next hb)
  replace HA := Lib.hid (HA.out.next hb)
  replace HB := Lib.hid (HB.out.next hb)
  replace X1 := Lib.hid (X1.out.next hb)
  replace HBL := Lib.hid (HBL.out.trans (hb.mono HBL.out.size))
  clear hb
  go_wp2_with fail
  refine (coded_any w3 HT.out).mono ?_
  rintro e w4 ⟨rfl, hb⟩
  replace HT := Lib.hid (HT.out.next hb)
  replace HA := Lib.hid (HA.out.next hb)
  replace HB := Lib.hid (HB.out.next hb)
  replace X1 := Lib.hid (X1.out.next hb)
  replace HBL := Lib.hid (HBL.out.trans (hb.mono HBL.out.size))
  clear hb
  go_wp2
  go_ret
  exact ⟨rfl, HBL.out⟩
set_option maxRecDepth 100000 in
set_option maxHeartbeats 1600000 in
theorem one15_b (l : List K) (n : Nat) (hn : n = l.length) (hn3 : n ≤ 9223372036854775807) (A : Option Addr) (c : Nat) (b : List Nat) (m : Nat) (hm : m = b.length) (hm2 : m ≤ 1048576) (B : Option Addr) (d : Nat) (E : Int) (r : Rg) (hE : decX l b = (E, r)) (hbig : bigR l = false) (q0 : 1000 < m) (w : World) (hT : Tabs w) (hA : Ks w w.heap.size A l) (hB : Bs w w.heap.size b B d) : Calls Tryz.prog 7 #[.slice A n c, .slice B m d] w fun e w' => e = .returned (.bool true) ∧ Below w.heap.size w w' := by
  have p0 : (1000 : Int) < (m : Int) := by omega
  have HE := Lib.hid hE
  have HBIG := Lib.hid hbig
  clear hE hbig
  have HN := Lib.hid hn
  have HM := Lib.hid hm
  have HT := Lib.hid hT
  have HA := Lib.hid hA
  have HB := Lib.hid hB
  clear hn hm hT hA hB
  have HBL := Lib.hid (Below.refl w.heap.size w)
  go_enter Tryz.func7, Tryz.ntmps7
  go_wp2_with fail
  refine (pdec_any l n HN.out hn3 b m HM.out hm2 A c B d E r HE.out w HT.out HA.out HB.out).mono ?_
  rintro e w1 ⟨rfl, hb⟩
  replace HT := Lib.hid (HT.out.next hb)
  replace HA := Lib.hid (HA.out.next hb)
  replace HB := Lib.hid (HB.out.next hb)
  replace HBL := Lib.hid (HBL.out.trans (hb.mono HBL.out.size))
  clear hb
  go_wp2_with fail
  obtain ⟨w2, hw⟩ : ∃ w2, w2 = w1.alloc (.cells #[.int .i64 r.t.ser, .int .i64 r.t.kind, .int .i64 r.t.frm, .int .i64 r.t.till, .int .i64 r.t.cls, .int .i64 r.t.card, .int .i64 r.t.seat, .int .i64 r.t.day, .int .i64 r.t.days, .int .i64 r.t.uses, .int .i64 r.t.epoch, .int .i64 r.key, .int .i64 r.left, .int .i64 r.inn, .int .i64 r.ver] 28) := ⟨_, rfl⟩
  rw [← hw]
  have hx : RBox w2 w1.heap.size r := by rw [hw]; exact RBox.new w1 r
  have hb : Below w1.heap.size w1 w2 := by rw [hw]; exact below_lit w1 _ _
  replace HT := Lib.hid (HT.out.next hb)
  replace HA := Lib.hid (HA.out.next hb)
  replace HB := Lib.hid (HB.out.next hb)
  replace HBL := Lib.hid (HBL.out.trans (hb.mono HBL.out.size))
  have X1 := Lib.hid hx
  clear hx hb hw
  obtain ⟨B1, hB⟩ : ∃ B, B = w1.heap.size := ⟨_, rfl⟩
  rw [← hB] at X1 ⊢
  clear hB
  refine (refbig_named l n HN.out false HBIG.out A c w2 HA.out hn3).mono ?_
  rintro e w3 ⟨rfl, hb⟩
  replace HT := Lib.hid (HT.out.next hb)
  replace HA := Lib.hid (HA.out.next hb)
  replace HB := Lib.hid (HB.out.next hb)
  replace X1 := Lib.hid (X1.out.next hb)
  replace HBL := Lib.hid (HBL.out.trans (hb.mono HBL.out.size))
  clear hb
  go_wp2_with fail
  refine (coded_any w3 HT.out).mono ?_
  rintro e w4 ⟨rfl, hb⟩
  replace HT := Lib.hid (HT.out.next hb)
  replace HA := Lib.hid (HA.out.next hb)
  replace HB := Lib.hid (HB.out.next hb)
  replace X1 := Lib.hid (X1.out.next hb)
  replace HBL := Lib.hid (HBL.out.trans (hb.mono HBL.out.size))
  clear hb
  go_wp2
  go_ret
  exact ⟨rfl, HBL.out⟩
set_option maxRecDepth 100000 in
set_option maxHeartbeats 1600000 in
theorem one15_c (l : List K) (n : Nat) (hn : n = l.length) (hn3 : n ≤ 9223372036854775807) (A : Option Addr) (c : Nat) (b : List Nat) (m : Nat) (hm : m = b.length) (hm2 : m ≤ 1048576) (B : Option Addr) (d : Nat) (E : Int) (r : Rg) (hE : decX l b = (E, r)) (hbig : bigR l = false) (q0 : ¬ 1000 < m) (h0 : E ≠ 0) (w : World) (hT : Tabs w) (hA : Ks w w.heap.size A l) (hB : Bs w w.heap.size b B d) : Calls Tryz.prog 7 #[.slice A n c, .slice B m d] w fun e w' => e = .returned (.bool true) ∧ Below w.heap.size w w' := by
  have p0 : ¬ ((1000 : Int) < (m : Int)) := by omega
  have s1 : (E == 0) = false := by rw [beq_eq_false_iff_ne]; exact h0
  have s2 : (E != 0) = true := by rw [bne_iff_ne]; exact h0
  clear h0
  have HE := Lib.hid hE
  have HBIG := Lib.hid hbig
  clear hE hbig
  have HN := Lib.hid hn
  have HM := Lib.hid hm
  have HT := Lib.hid hT
  have HA := Lib.hid hA
  have HB := Lib.hid hB
  clear hn hm hT hA hB
  have HBL := Lib.hid (Below.refl w.heap.size w)
  go_enter Tryz.func7, Tryz.ntmps7
  go_wp2_with fail
  refine (pdec_any l n HN.out hn3 b m HM.out hm2 A c B d E r HE.out w HT.out HA.out HB.out).mono ?_
  rintro e w1 ⟨rfl, hb⟩
  replace HT := Lib.hid (HT.out.next hb)
  replace HA := Lib.hid (HA.out.next hb)
  replace HB := Lib.hid (HB.out.next hb)
  replace HBL := Lib.hid (HBL.out.trans (hb.mono HBL.out.size))
  clear hb
  go_wp2_with fail
  obtain ⟨w2, hw⟩ : ∃ w2, w2 = w1.alloc (.cells #[.int .i64 r.t.ser, .int .i64 r.t.kind, .int .i64 r.t.frm, .int .i64 r.t.till, .int .i64 r.t.cls, .int .i64 r.t.card, .int .i64 r.t.seat, .int .i64 r.t.day, .int .i64 r.t.days, .int .i64 r.t.uses, .int .i64 r.t.epoch, .int .i64 r.key, .int .i64 r.left, .int .i64 r.inn, .int .i64 r.ver] 28) := ⟨_, rfl⟩
  rw [← hw]
  have hx : RBox w2 w1.heap.size r := by rw [hw]; exact RBox.new w1 r
  have hb : Below w1.heap.size w1 w2 := by rw [hw]; exact below_lit w1 _ _
  replace HT := Lib.hid (HT.out.next hb)
  replace HA := Lib.hid (HA.out.next hb)
  replace HB := Lib.hid (HB.out.next hb)
  replace HBL := Lib.hid (HBL.out.trans (hb.mono HBL.out.size))
  have X1 := Lib.hid hx
  clear hx hb hw
  obtain ⟨B1, hB⟩ : ∃ B, B = w1.heap.size := ⟨_, rfl⟩
  rw [← hB] at X1 ⊢
  clear hB
  refine (refbig_named l n HN.out false HBIG.out A c w2 HA.out hn3).mono ?_
  rintro e w3 ⟨rfl, hb⟩
  replace HT := Lib.hid (HT.out.next hb)
  replace HA := Lib.hid (HA.out.next hb)
  replace HB := Lib.hid (HB.out.next hb)
  replace X1 := Lib.hid (X1.out.next hb)
  replace HBL := Lib.hid (HBL.out.trans (hb.mono HBL.out.size))
  clear hb
  go_wp2_with fail
  refine (coded_any w3 HT.out).mono ?_
  rintro e w4 ⟨rfl, hb⟩
  replace HT := Lib.hid (HT.out.next hb)
  replace HA := Lib.hid (HA.out.next hb)
  replace HB := Lib.hid (HB.out.next hb)
  replace X1 := Lib.hid (X1.out.next hb)
  replace HBL := Lib.hid (HBL.out.trans (hb.mono HBL.out.size))
  clear hb
  go_wp2
  go_ret
  exact ⟨rfl, HBL.out⟩
set_option maxRecDepth 100000 in
set_option maxHeartbeats 1600000 in
theorem one15_d (l : List K) (n : Nat) (hn : n = l.length) (hn3 : n ≤ 9223372036854775807) (A : Option Addr) (c : Nat) (b : List Nat) (m : Nat) (hm : m = b.length) (hm2 : m ≤ 1048576) (B : Option Addr) (d : Nat) (r : Rg) (hE : decX l b = (0, r)) (hbig : bigR l = false) (ho : readO b = false) (w : World) (hT : Tabs w) (hA : Ks w w.heap.size A l) (hB : Bs w w.heap.size b B d) : Calls Tryz.prog 7 #[.slice A n c, .slice B m d] w fun e w' => e = .returned (.bool true) ∧ Below w.heap.size w w' := by
  obtain ⟨hX, hL, hlt, h50, hP⟩ := dec_enc hB.lt hE
  have h5 := dec_ok hE
  obtain ⟨p, hp⟩ : ∃ p, readL b = p := ⟨_, rfl⟩
  obtain ⟨q, hq⟩ : ∃ q, putL p = q := ⟨_, rfl⟩
  rw [ho] at hL
  rw [hp, hq] at hX hL hlt
  rw [hp] at hP
  have p0 : ¬ ((1000 : Int) < (m : Int)) := by omega
  have HIN := Lib.hid (sput_in hP)
  have HQ := Lib.hid (show b = q by rw [hL, if_neg (by decide)])
  have HRE := Lib.hid h5.2.1
  have HE := Lib.hid hE
  have HBIG := Lib.hid hbig
  have HX := Lib.hid hX
  have HO := Lib.hid ho
  have HP := Lib.hid hp
  clear hE hbig hX ho hp
  clear hL hlt h50 hP h5 hq
  have HN := Lib.hid hn
  have HM := Lib.hid hm
  have HT := Lib.hid hT
  have HA := Lib.hid hA
  have HB := Lib.hid hB
  clear hn hm hT hA hB
  have HBL := Lib.hid (Below.refl w.heap.size w)
  go_enter Tryz.func7, Tryz.ntmps7
  go_wp2_with fail
  refine (pdec_any l n HN.out hn3 b m HM.out hm2 A c B d 0 r HE.out w HT.out HA.out HB.out).mono ?_
  rintro e w1 ⟨rfl, hb⟩
  replace HT := Lib.hid (HT.out.next hb)
  replace HA := Lib.hid (HA.out.next hb)
  replace HB := Lib.hid (HB.out.next hb)
  replace HBL := Lib.hid (HBL.out.trans (hb.mono HBL.out.size))
  clear hb
  go_wp2_with fail
  obtain ⟨w2, hw⟩ : ∃ w2, w2 = w1.alloc (.cells #[.int .i64 r.t.ser, .int .i64 r.t.kind, .int .i64 r.t.frm, .int .i64 r.t.till, .int .i64 r.t.cls, .int .i64 r.t.card, .int .i64 r.t.seat, .int .i64 r.t.day, .int .i64 r.t.days, .int .i64 r.t.uses, .int .i64 r.t.epoch, .int .i64 r.key, .int .i64 r.left, .int .i64 r.inn, .int .i64 r.ver] 28) := ⟨_, rfl⟩
  rw [← hw]
  have hx : RBox w2 w1.heap.size r := by rw [hw]; exact RBox.new w1 r
  have hb : Below w1.heap.size w1 w2 := by rw [hw]; exact below_lit w1 _ _
  replace HT := Lib.hid (HT.out.next hb)
  replace HA := Lib.hid (HA.out.next hb)
  replace HB := Lib.hid (HB.out.next hb)
  replace HBL := Lib.hid (HBL.out.trans (hb.mono HBL.out.size))
  have X1 := Lib.hid hx
  clear hx hb hw
  obtain ⟨B1, hB⟩ : ∃ B, B = w1.heap.size := ⟨_, rfl⟩
  rw [← hB] at X1 ⊢
  clear hB
  refine (refbig_named l n HN.out false HBIG.out A c w2 HA.out hn3).mono ?_
  rintro e w3 ⟨rfl, hb⟩
  replace HT := Lib.hid (HT.out.next hb)
  replace HA := Lib.hid (HA.out.next hb)
  replace HB := Lib.hid (HB.out.next hb)
  replace X1 := Lib.hid (X1.out.next hb)
  replace HBL := Lib.hid (HBL.out.trans (hb.mono HBL.out.size))
  clear hb
  obtain ⟨c0, c1, c2, c3, c4, c5, c6, c7, c8, c9, c10, c11, c12, c13, c14⟩ := X1.out.cells
  go_wp2_with fail
  refine (penc_any l n HN.out hn3 A c r HIN.out 0 q HX.out w3 HT.out HA.out).mono ?_
  rintro e w4 ⟨AP1, cP1, rfl, hs, hb⟩
  clear c0 c1 c2 c3 c4 c5 c6 c7 c8 c9 c10 c11 c12 c13 c14
  replace HT := Lib.hid (HT.out.next hb)
  replace HA := Lib.hid (HA.out.next hb)
  replace HB := Lib.hid (HB.out.next hb)
  replace X1 := Lib.hid (X1.out.next hb)
  replace HBL := Lib.hid (HBL.out.trans (hb.mono HBL.out.size))
  have P1 := Lib.hid hs
  clear hb hs
  go_wp2_with fail
  refine (pread_any b m HM.out hm2 0 HRE.out false HO.out p HP.out B d w4 HB.out).mono ?_
  rintro e w5 ⟨AR1, cR1, rfl, hs, hb⟩
  replace HT := Lib.hid (HT.out.next hb)
  replace HA := Lib.hid (HA.out.next hb)
  replace HB := Lib.hid (HB.out.next hb)
  replace X1 := Lib.hid (X1.out.next hb)
  replace P1 := Lib.hid (P1.out.next hb)
  replace HBL := Lib.hid (HBL.out.trans (hb.mono HBL.out.size))
  have R1 := Lib.hid hs
  clear hb hs
  go_wp2_with fail
  refine (coded_any w5 HT.out).mono ?_
  rintro e w6 ⟨rfl, hb⟩
  replace HT := Lib.hid (HT.out.next hb)
  replace HA := Lib.hid (HA.out.next hb)
  replace HB := Lib.hid (HB.out.next hb)
  replace X1 := Lib.hid (X1.out.next hb)
  replace P1 := Lib.hid (P1.out.next hb)
  replace R1 := Lib.hid (R1.out.next hb)
  replace HBL := Lib.hid (HBL.out.trans (hb.mono HBL.out.size))
  clear hb
  go_wp2_with fail
  refine (same_true b m q.length HM.out (by rw [HQ.out]) B AP1 d cP1 w6 HB.out (by rw [HQ.out]; exact P1.out)).mono ?_
  rintro e w7 ⟨rfl, hb⟩
  replace HT := Lib.hid (HT.out.next hb)
  replace HA := Lib.hid (HA.out.next hb)
  replace HB := Lib.hid (HB.out.next hb)
  replace X1 := Lib.hid (X1.out.next hb)
  replace P1 := Lib.hid (P1.out.next hb)
  replace R1 := Lib.hid (R1.out.next hb)
  replace HBL := Lib.hid (HBL.out.trans (hb.mono HBL.out.size))
  clear hb
  go_wp2
  go_ret
  exact ⟨rfl, HBL.out⟩
set_option maxRecDepth 100000 in
set_option maxHeartbeats 1600000 in
theorem one15_e (l : List K) (n : Nat) (hn : n = l.length) (hn3 : n ≤ 9223372036854775807) (A : Option Addr) (c : Nat) (b : List Nat) (m : Nat) (hm : m = b.length) (hm2 : m ≤ 1048576) (B : Option Addr) (d : Nat) (r : Rg) (hE : decX l b = (0, r)) (hbig : bigR l = false) (ho : readO b = true) (w : World) (hT : Tabs w) (hA : Ks w w.heap.size A l) (hB : Bs w w.heap.size b B d) : Calls Tryz.prog 7 #[.slice A n c, .slice B m d] w fun e w' => e = .returned (.bool true) ∧ Below w.heap.size w w' := by
  obtain ⟨hX, hL, hlt, h50, hP⟩ := dec_enc hB.lt hE
  have h5 := dec_ok hE
  obtain ⟨p, hp⟩ : ∃ p, readL b = p := ⟨_, rfl⟩
  obtain ⟨q, hq⟩ : ∃ q, putL p = q := ⟨_, rfl⟩
  rw [ho] at hL
  rw [hp, hq] at hX hL hlt
  rw [hp] at hP
  have p0 : ¬ ((1000 : Int) < (m : Int)) := by omega
  have HIN := Lib.hid (sput_in hP)
  have HQ := Lib.hid (show turnL b = q by rw [hL, if_pos rfl])
  have HRE := Lib.hid h5.2.1
  have HE := Lib.hid hE
  have HBIG := Lib.hid hbig
  have HX := Lib.hid hX
  have HO := Lib.hid ho
  have HP := Lib.hid hp
  clear hE hbig hX ho hp
  clear hL hlt h50 hP h5 hq
  have HN := Lib.hid hn
  have HM := Lib.hid hm
  have HT := Lib.hid hT
  have HA := Lib.hid hA
  have HB := Lib.hid hB
  clear hn hm hT hA hB
  have HBL := Lib.hid (Below.refl w.heap.size w)
  go_enter Tryz.func7, Tryz.ntmps7
  go_wp2_with fail
  refine (pdec_any l n HN.out hn3 b m HM.out hm2 A c B d 0 r HE.out w HT.out HA.out HB.out).mono ?_
  rintro e w1 ⟨rfl, hb⟩
  replace HT := Lib.hid (HT.out.next hb)
  replace HA := Lib.hid (HA.out.next hb)
  replace HB := Lib.hid (HB.out.next hb)
  replace HBL := Lib.hid (HBL.out.trans (hb.mono HBL.out.size))
  clear hb
  go_wp2_with fail
  obtain ⟨w2, hw⟩ : ∃ w2, w2 = w1.alloc (.cells #[.int .i64 r.t.ser, .int .i64 r.t.kind, .int .i64 r.t.frm, .int .i64 r.t.till, .int .i64 r.t.cls, .int .i64 r.t.card, .int .i64 r.t.seat, .int .i64 r.t.day, .int .i64 r.t.days, .int .i64 r.t.uses, .int .i64 r.t.epoch, .int .i64 r.key, .int .i64 r.left, .int .i64 r.inn, .int .i64 r.ver] 28) := ⟨_, rfl⟩
  rw [← hw]
  have hx : RBox w2 w1.heap.size r := by rw [hw]; exact RBox.new w1 r
  have hb : Below w1.heap.size w1 w2 := by rw [hw]; exact below_lit w1 _ _
  replace HT := Lib.hid (HT.out.next hb)
  replace HA := Lib.hid (HA.out.next hb)
  replace HB := Lib.hid (HB.out.next hb)
  replace HBL := Lib.hid (HBL.out.trans (hb.mono HBL.out.size))
  have X1 := Lib.hid hx
  clear hx hb hw
  obtain ⟨B1, hB⟩ : ∃ B, B = w1.heap.size := ⟨_, rfl⟩
  rw [← hB] at X1 ⊢
  clear hB
  refine (refbig_named l n HN.out false HBIG.out A c w2 HA.out hn3).mono ?_
  rintro e w3 ⟨rfl, hb⟩
  replace HT := Lib.hid (HT.out.next hb)
  replace HA := Lib.hid (HA.out.next hb)
  replace HB := Lib.hid (HB.out.next hb)
  replace X1 := Lib.hid (X1.out.next hb)
  replace HBL := Lib.hid (HBL.out.trans (hb.mono HBL.out.size))
  clear hb
  obtain ⟨c0, c1, c2, c3, c4, c5, c6, c7, c8, c9, c10, c11, c12, c13, c14⟩ := X1.out.cells
  go_wp2_with fail
  refine (penc_any l n HN.out hn3 A c r HIN.out 0 q HX.out w3 HT.out HA.out).mono ?_
  rintro e w4 ⟨AP1, cP1, rfl, hs, hb⟩
  clear c0 c1 c2 c3 c4 c5 c6 c7 c8 c9 c10 c11 c12 c13 c14
  replace HT := Lib.hid (HT.out.next hb)
  replace HA := Lib.hid (HA.out.next hb)
  replace HB := Lib.hid (HB.out.next hb)
  replace X1 := Lib.hid (X1.out.next hb)
  replace HBL := Lib.hid (HBL.out.trans (hb.mono HBL.out.size))
  have P1 := Lib.hid hs
  clear hb hs
  go_wp2_with fail
  refine (pread_any b m HM.out hm2 0 HRE.out true HO.out p HP.out B d w4 HB.out).mono ?_
  rintro e w5 ⟨AR1, cR1, rfl, hs, hb⟩
  replace HT := Lib.hid (HT.out.next hb)
  replace HA := Lib.hid (HA.out.next hb)
  replace HB := Lib.hid (HB.out.next hb)
  replace X1 := Lib.hid (X1.out.next hb)
  replace P1 := Lib.hid (P1.out.next hb)
  replace HBL := Lib.hid (HBL.out.trans (hb.mono HBL.out.size))
  have R1 := Lib.hid hs
  clear hb hs
  go_wp2_with fail
  refine (coded_any w5 HT.out).mono ?_
  rintro e w6 ⟨rfl, hb⟩
  replace HT := Lib.hid (HT.out.next hb)
  replace HA := Lib.hid (HA.out.next hb)
  replace HB := Lib.hid (HB.out.next hb)
  replace X1 := Lib.hid (X1.out.next hb)
  replace P1 := Lib.hid (P1.out.next hb)
  replace R1 := Lib.hid (R1.out.next hb)
  replace HBL := Lib.hid (HBL.out.trans (hb.mono HBL.out.size))
  clear hb
  go_wp2_with fail
  refine (pturn_any b m HM.out hm2 B d w6 HB.out).mono ?_
  rintro e w7 ⟨AT1, cT1, rfl, hs, hb⟩
  replace HT := Lib.hid (HT.out.next hb)
  replace HA := Lib.hid (HA.out.next hb)
  replace HB := Lib.hid (HB.out.next hb)
  replace X1 := Lib.hid (X1.out.next hb)
  replace P1 := Lib.hid (P1.out.next hb)
  replace R1 := Lib.hid (R1.out.next hb)
  replace HBL := Lib.hid (HBL.out.trans (hb.mono HBL.out.size))
  have T1 := Lib.hid hs
  clear hb hs
  rw [HQ.out] at T1
  go_wp2_with fail
  refine (same_true q m q.length (by rw [← HQ.out, turn_len]; exact HM.out) rfl AT1 AP1 cT1 cP1 w7 T1.out P1.out).mono ?_
  rintro e w8 ⟨rfl, hb⟩
  replace HT := Lib.hid (HT.out.next hb)
  replace HA := Lib.hid (HA.out.next hb)
  replace HB := Lib.hid (HB.out.next hb)
  replace X1 := Lib.hid (X1.out.next hb)
  replace P1 := Lib.hid (P1.out.next hb)
  replace R1 := Lib.hid (R1.out.next hb)
  replace T1 := Lib.hid (T1.out.next hb)
  replace HBL := Lib.hid (HBL.out.trans (hb.mono HBL.out.size))
  clear hb
  go_wp2
  go_ret
  exact ⟨rfl, HBL.out⟩
set_option maxRecDepth 100000 in
set_option maxHeartbeats 1600000 in
theorem one15_any (l : List K) (n : Nat) (hn : n = l.length) (hn3 : n ≤ 9223372036854775807) (A : Option Addr) (c : Nat) (b : List Nat) (m : Nat) (hm : m = b.length) (hm2 : m ≤ 1048576) (B : Option Addr) (d : Nat) (w : World) (hT : Tabs w) (hA : Ks w w.heap.size A l) (hB : Bs w w.heap.size b B d) : Calls Tryz.prog 7 #[.slice A n c, .slice B m d] w fun e w' => e = .returned (.bool true) ∧ Below w.heap.size w w' := by
  cases hbig : bigR l
  · by_cases q0 : 1000 < m
    · exact one15_b l n hn hn3 A c b m hm hm2 B d _ _ rfl hbig q0 w hT hA hB
    · by_cases h0 : (decX l b).1 = 0
      · have hE : decX l b = (0, (decX l b).2) := by rw [← h0]
        cases ho : readO b
        · exact one15_d l n hn hn3 A c b m hm hm2 B d _ hE hbig ho w hT hA hB
        · exact one15_e l n hn hn3 A c b m hm hm2 B d _ hE hbig ho w hT hA hB
      · exact one15_c l n hn hn3 A c b m hm hm2 B d _ _ rfl hbig q0 h0 w hT hA hB
  · exact one15_a l n hn hn3 A c b m hm hm2 B d _ _ rfl hbig w hT hA hB
end Go.Proofs.YtpniolinndlepaaGreatDoor
