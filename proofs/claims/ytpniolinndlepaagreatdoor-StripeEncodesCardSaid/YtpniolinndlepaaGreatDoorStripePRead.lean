/-
  Contracts for the landed demand and parts of stripe. Conditions: the slice reads as bytes, at most 1048576 of them.
-/
import Derived.Test.YtpniolinndlepaaGreatDoorStripePEnc
import Derived.Test.YtpniolinndlepaaGreatDoorSwipeP
import Derived.Test.YtpniolinndlepaaGreatDoorLayPGet
namespace Go.Proofs.YtpniolinndlepaaGreatDoor
set_option linter.unusedVariables false
open Go.ChangeShapes Go.WideShapes Go.ChangeAt Go.RowKit

set_option maxRecDepth 100000 in
theorem sdemand_ok (E : Int) (w : World) : Calls Tryz.prog 33 #[.bool true, .int .i64 E] w fun e w' => e = .returned (.tuple #[]) ∧ w' = w := by
  go_enter Tryz.func33, Tryz.ntmps33
  go_wp2
  first | (go_end0; exact ⟨rfl, rfl⟩) | (go_ret; exact ⟨rfl, rfl⟩)
set_option maxRecDepth 100000 in
theorem sdemand_no (E : Int) (w : World) : Calls Tryz.prog 33 #[.bool false, .int .i64 E] w fun e w' => e = .panicked (told E) ∧ w' = w := by
  go_enter Tryz.func33, Tryz.ntmps33
  go_wp2
  exact ⟨rfl, rfl, rfl⟩
theorem addr_twice (ad : Addr) (a b : Nat) : (ad.add a).add b = ad.add (a + b) := by
  unfold Addr.add
  by_cases ha : a = 0
  · subst ha; simp
  · by_cases hb : b = 0
    · subst hb; simp [ha]
    · simp [ha, hb, Nat.add_assoc]
theorem Bs.split {w : World} {B : Nat} {s : List Nat} {a : Addr} {c : Nat} (h : Bs w B s (some a) c) (m : Nat) (hm : m ≤ s.length) : Bs w B (s.take m) (some a) c ∧ Bs w B (s.drop m) (some (a.add m)) (c - m) := by
  have h1 := h.len
  have h2 := h.cap
  refine ⟨⟨?_, (fun e => by cases e), (by rw [List.length_take]; omega), h2, fun x hx => h.lt x (List.mem_of_mem_take hx)⟩, ⟨?_, (fun e => by cases e), (by rw [List.length_drop]; omega), (by omega), fun x hx => h.lt x (List.mem_of_mem_drop hx)⟩⟩
  · intro k u hu
    refine h.rd k u ?_
    rw [U8, List.getElem?_map] at hu ⊢
    rw [List.getElem?_take] at hu
    split at hu
    · exact hu
    · simp at hu
  · intro k u hu
    obtain ⟨ad, e, hlt, hc⟩ := h.rd (m + k) u (by
      rw [U8, List.getElem?_map] at hu ⊢
      rw [List.getElem?_drop] at hu
      exact hu)
    cases e
    exact ⟨_, rfl, by rw [add_block]; exact hlt, by rw [addr_twice]; exact hc⟩
set_option maxRecDepth 100000 in
set_option maxHeartbeats 1600000 in
theorem pparts_no (b : List Nat) (n : Nat) (hn : n = b.length) (hn2 : n ≤ 1048576) (E : Int) (hE : readE b = E) (h0 : E ≠ 0) (A : Option Addr) (c : Nat) (w : World) (hA : Bs w w.heap.size b A c) : Calls Tryz.prog 34 #[.slice A n c] w fun e w' => e = .panicked (told E) ∧ Below w.heap.size w w' := by
  obtain ⟨o, hO⟩ : ∃ o, readO b = o := ⟨_, rfl⟩
  obtain ⟨p, hP⟩ : ∃ p, readL b = p := ⟨_, rfl⟩
  have s1 : (E == 0) = false := by rw [beq_eq_false_iff_ne]; exact h0
  have HN := Lib.hid hn
  have HE := Lib.hid hE
  have HO := Lib.hid hO
  have HP := Lib.hid hP
  have HA := Lib.hid hA
  clear hn hE hO hP hA h0
  go_enter Tryz.func34, Tryz.ntmps34
  go_wp2_with fail
  refine (pread_any b n HN.out hn2 E HE.out o HO.out p HP.out A c w HA.out).mono ?_
  rintro e w1 ⟨AR, cR, rfl, hs, hb⟩
  have HB := Lib.hid hb
  clear hs hb
  go_wp2_with fail
  refine (sdemand_no E _).mono ?_
  rintro e w2 ⟨rfl, rfl⟩
  go_wp2
  exact ⟨rfl, rfl, HB.out⟩
set_option maxRecDepth 100000 in
set_option maxHeartbeats 1600000 in
theorem pparts_short (b : List Nat) (n : Nat) (hn : n = b.length) (hn2 : n ≤ 1048576) (h0 : readE b = 0) (p : List Nat) (hP : readL b = p) (k : Nat) (hk : p.length = k) (h10 : k < 10) (A : Option Addr) (c : Nat) (w : World) (hA : Bs w w.heap.size b A c) : Calls Tryz.prog 34 #[.slice A n c] w fun e w' => e = .panicked (told 14) ∧ Below w.heap.size w w' := by
  obtain ⟨o, hO⟩ : ∃ o, readO b = o := ⟨_, rfl⟩
  have s2 : decide ((10 : Int) ≤ (k : Int)) = false := decide_eq_false (by omega)
  have HN := Lib.hid hn
  have HE := Lib.hid h0
  have HO := Lib.hid hO
  have HP := Lib.hid hP
  have HA := Lib.hid hA
  have HK := Lib.hid hk
  clear hn h0 hO hP hA hk
  go_enter Tryz.func34, Tryz.ntmps34
  go_wp2_with fail
  refine (pread_any b n HN.out hn2 0 HE.out o HO.out p HP.out A c w HA.out).mono ?_
  rintro e w1 ⟨AR, cR, rfl, hs, hb⟩
  have HB := Lib.hid hb
  clear hs hb
  rw [HK.out]
  go_wp2_with fail
  refine (sdemand_ok 0 _).mono ?_
  rintro e w2 ⟨rfl, rfl⟩
  go_wp2_with fail
  refine (sdemand_no 14 _).mono ?_
  rintro e w3 ⟨rfl, rfl⟩
  go_wp2
  exact ⟨rfl, rfl, HB.out⟩
set_option maxRecDepth 100000 in
set_option maxHeartbeats 1600000 in
theorem pparts_ok (b : List Nat) (n : Nat) (hn : n = b.length) (hn2 : n ≤ 1048576) (h0 : readE b = 0) (p : List Nat) (hP : readL b = p) (k m : Nat) (hk : p.length = k) (hm : k = m + 10) (A : Option Addr) (c : Nat) (w : World) (hA : Bs w w.heap.size b A c) : Calls Tryz.prog 34 #[.slice A n c] w fun e w' => ∃ A1 c1 A2 c2, e = .returned (.tuple #[.slice A1 m c1, .slice A2 10 c2]) ∧ Bs w' w'.heap.size (saidL p) A1 c1 ∧ Bs w' w'.heap.size (tailL p) A2 c2 ∧ Below w.heap.size w w' := by
  obtain ⟨o, hO⟩ : ∃ o, readO b = o := ⟨_, rfl⟩
  have HN := Lib.hid hn
  have HE := Lib.hid h0
  have HO := Lib.hid hO
  have HP := Lib.hid hP
  have HA := Lib.hid hA
  have HK := Lib.hid hk
  have HM := Lib.hid hm
  clear hn h0 hO hP hA hk hm
  go_enter Tryz.func34, Tryz.ntmps34
  go_wp2_with fail
  refine (pread_any b n HN.out hn2 0 HE.out o HO.out p HP.out A c w HA.out).mono ?_
  rintro e w1 ⟨AR, cR, rfl, hs, hb⟩
  have HB := Lib.hid hb
  have hcap := hs.cap
  have hlen := hs.len
  rw [HK.out] at hlen
  have hm63 : m ≤ 9223372036854775807 := by have := HM.out; omega
  obtain ⟨a, rfl⟩ : ∃ a, AR = some a := by
    rcases AR with _ | a
    · have h1 := hs.nil rfl
      have h2 := HM.out
      omega
    · exact ⟨a, rfl⟩
  obtain ⟨hs1, hs2⟩ := Bs.split hs m (by rw [HK.out, HM.out]; omega)
  have e10 : p.length - 10 = m := by rw [HK.out, HM.out]; omega
  have HS1 := Lib.hid (show Bs w1 w1.heap.size (saidL p) (some a) cR by rw [saidL, e10]; exact hs1)
  have HS2 := Lib.hid (show Bs w1 w1.heap.size (tailL p) (some (a.add m)) (cR - m) by rw [tailL, e10]; exact hs2)
  have wz : IntKind.i64.wrap ((k : Int) - 10) = (m : Int) := by
    rw [show (k : Int) - 10 = (m : Int) by have := HM.out; omega]
    exact IntWalk.i64_in _ (by omega)
  have mc : m ≤ cR := by have := HM.out; omega
  have mk : m ≤ k := by have := HM.out; omega
  have nc : ¬ cR = m := by have := HM.out; omega
  clear hs hb hs1 hs2 e10
  rw [HK.out]
  go_wp2_with fail
  refine (sdemand_ok 0 _).mono ?_
  rintro e w2 ⟨rfl, rfl⟩
  go_wp2_with fail
  refine (sdemand_ok 14 _).mono ?_
  rintro e w3 ⟨rfl, rfl⟩
  go_wp2
  have m0 : (0 : Int) ≤ (m : Int) := by omega
  have mci : (m : Int) ≤ (cR : Int) := by omega
  have mki : (m : Int) ≤ (k : Int) := by omega
  go_region
  go_wp2
  have hd : Below w3.heap.size w3 w3.drew := below_drewN (Below.refl _ _) 1
  rw [show k - m = 10 by have := HM.out; omega]
  go_ret2
  exact ⟨_, _, _, _, rfl, HS1.out.next hd, HS2.out.next hd, below_drewN HB.out 1⟩
-- MORE
theorem sdem_ok (E : Int) (w : World) : Calls Tryz.prog 33 #[.bool true, .int .i64 E] w fun e w' => e = .returned (.tuple #[]) ∧ Below w.heap.size w w' := by
  refine (sdemand_ok E w).mono ?_
  rintro e w' ⟨rfl, rfl⟩
  exact ⟨rfl, Below.refl _ _⟩
theorem sdem_no (E : Int) (w : World) : Calls Tryz.prog 33 #[.bool false, .int .i64 E] w fun e w' => e = .panicked (told E) ∧ Below w.heap.size w w' := by
  refine (sdemand_no E w).mono ?_
  rintro e w' ⟨rfl, rfl⟩
  exact ⟨rfl, Below.refl _ _⟩
set_option maxRecDepth 100000 in
set_option maxHeartbeats 1600000 in
theorem pwhat_no (s : List Nat) (m : Nat) (hm : m = s.length) (A : Option Addr) (c : Nat) (w : World) (hA : Bs w w.heap.size s A c) (E : Int) (r : Rg) (hE : lgetX s = (E, r)) (h0 : E ≠ 0) : Calls Tryz.prog 35 #[.slice A m c] w fun e w' => e = .panicked (told E) ∧ Below w.heap.size w w' := by
  have s1 : (E == 0) = false := by rw [beq_eq_false_iff_ne]; exact h0
  clear h0
  have HM := Lib.hid hm
  have HA := Lib.hid hA
  have HE := Lib.hid hE
  clear hm hA hE
  have HBL := Lib.hid (Below.refl w.heap.size w)
  go_enter Tryz.func35, Tryz.ntmps35
  go_wp2_with fail
  obtain ⟨w1, hw⟩ : ∃ w1, w1 = w.alloc (.cells #[.int .i64 0, .int .i64 0, .int .i64 0, .int .i64 0, .int .i64 0, .int .i64 0, .int .i64 0, .int .i64 0, .int .i64 0, .int .i64 0, .int .i64 0, .int .i64 0, .int .i64 0, .int .i64 0, .int .i64 0] 28) := ⟨_, rfl⟩
  rw [← hw]
  have hx : RBox w1 w.heap.size zeroR := by rw [hw]; exact RBox.new w zeroR
  have hb : Below w.heap.size w w1 := by rw [hw]; exact below_lit w _ _
  replace HA := Lib.hid (HA.out.next hb)
  replace HBL := Lib.hid (HBL.out.trans (hb.mono HBL.out.size))
  have X0 := Lib.hid hx
  clear hx hb hw
  refine (lget_any s m HM.out E r HE.out A c w1 HA.out).mono ?_
  rintro e w2 ⟨rfl, hb⟩
  replace HA := Lib.hid (HA.out.next hb)
  replace X0 := Lib.hid (X0.out.next hb)
  replace HBL := Lib.hid (HBL.out.trans (hb.mono HBL.out.size))
  clear hb
  go_wp2_with fail
  obtain ⟨w3, hw⟩ : ∃ w3, w3 = w2.alloc (.cells #[.int .i64 r.t.ser, .int .i64 r.t.kind, .int .i64 r.t.frm, .int .i64 r.t.till, .int .i64 r.t.cls, .int .i64 r.t.card, .int .i64 r.t.seat, .int .i64 r.t.day, .int .i64 r.t.days, .int .i64 r.t.uses, .int .i64 r.t.epoch, .int .i64 r.key, .int .i64 r.left, .int .i64 r.inn, .int .i64 r.ver] 28) := ⟨_, rfl⟩
  rw [← hw]
  have hx : RBox w3 w2.heap.size r := by rw [hw]; exact RBox.new w2 r
  have hb : Below w2.heap.size w2 w3 := by rw [hw]; exact below_lit w2 _ _
  replace HA := Lib.hid (HA.out.next hb)
  replace X0 := Lib.hid (X0.out.next hb)
  replace HBL := Lib.hid (HBL.out.trans (hb.mono HBL.out.size))
  have X1 := Lib.hid hx
  clear hx hb hw
  obtain ⟨B1, hB⟩ : ∃ B, B = w2.heap.size := ⟨_, rfl⟩
  rw [← hB] at X1 ⊢
  clear hB
  refine (sdem_no E w3).mono ?_
  rintro e w4 ⟨rfl, hb⟩
  replace HA := Lib.hid (HA.out.next hb)
  replace X0 := Lib.hid (X0.out.next hb)
  replace X1 := Lib.hid (X1.out.next hb)
  replace HBL := Lib.hid (HBL.out.trans (hb.mono HBL.out.size))
  clear hb
  go_wp2
  exact ⟨rfl, rfl, HBL.out⟩
set_option maxRecDepth 100000 in
set_option maxHeartbeats 1600000 in
theorem pwhat_ok (s : List Nat) (m : Nat) (hm : m = s.length) (A : Option Addr) (c : Nat) (w : World) (hA : Bs w w.heap.size s A c) (r : Rg) (hE : lgetX s = (0, r)) : Calls Tryz.prog 35 #[.slice A m c] w fun e w' => e = .returned (.agg #[.int .i64 r.t.ser, .int .i64 r.t.kind, .int .i64 r.t.frm, .int .i64 r.t.till, .int .i64 r.t.cls, .int .i64 r.t.card, .int .i64 r.t.seat, .int .i64 r.t.day, .int .i64 r.t.days, .int .i64 r.t.uses, .int .i64 r.t.epoch, .int .i64 r.key, .int .i64 r.left, .int .i64 r.inn, .int .i64 r.ver]) ∧ Below w.heap.size w w' := by
  have HM := Lib.hid hm
  have HA := Lib.hid hA
  have HE := Lib.hid hE
  clear hm hA hE
  have HBL := Lib.hid (Below.refl w.heap.size w)
  go_enter Tryz.func35, Tryz.ntmps35
  go_wp2_with fail
  obtain ⟨w1, hw⟩ : ∃ w1, w1 = w.alloc (.cells #[.int .i64 0, .int .i64 0, .int .i64 0, .int .i64 0, .int .i64 0, .int .i64 0, .int .i64 0, .int .i64 0, .int .i64 0, .int .i64 0, .int .i64 0, .int .i64 0, .int .i64 0, .int .i64 0, .int .i64 0] 28) := ⟨_, rfl⟩
  rw [← hw]
  have hx : RBox w1 w.heap.size zeroR := by rw [hw]; exact RBox.new w zeroR
  have hb : Below w.heap.size w w1 := by rw [hw]; exact below_lit w _ _
  replace HA := Lib.hid (HA.out.next hb)
  replace HBL := Lib.hid (HBL.out.trans (hb.mono HBL.out.size))
  have X0 := Lib.hid hx
  clear hx hb hw
  refine (lget_any s m HM.out 0 r HE.out A c w1 HA.out).mono ?_
  rintro e w2 ⟨rfl, hb⟩
  replace HA := Lib.hid (HA.out.next hb)
  replace X0 := Lib.hid (X0.out.next hb)
  replace HBL := Lib.hid (HBL.out.trans (hb.mono HBL.out.size))
  clear hb
  go_wp2_with fail
  obtain ⟨w3, hw⟩ : ∃ w3, w3 = w2.alloc (.cells #[.int .i64 r.t.ser, .int .i64 r.t.kind, .int .i64 r.t.frm, .int .i64 r.t.till, .int .i64 r.t.cls, .int .i64 r.t.card, .int .i64 r.t.seat, .int .i64 r.t.day, .int .i64 r.t.days, .int .i64 r.t.uses, .int .i64 r.t.epoch, .int .i64 r.key, .int .i64 r.left, .int .i64 r.inn, .int .i64 r.ver] 28) := ⟨_, rfl⟩
  rw [← hw]
  have hx : RBox w3 w2.heap.size r := by rw [hw]; exact RBox.new w2 r
  have hb : Below w2.heap.size w2 w3 := by rw [hw]; exact below_lit w2 _ _
  replace HA := Lib.hid (HA.out.next hb)
  replace X0 := Lib.hid (X0.out.next hb)
  replace HBL := Lib.hid (HBL.out.trans (hb.mono HBL.out.size))
  have X1 := Lib.hid hx
  clear hx hb hw
  obtain ⟨B1, hB⟩ : ∃ B, B = w2.heap.size := ⟨_, rfl⟩
  rw [← hB] at X1 ⊢
  clear hB
  refine (sdem_ok 0 w3).mono ?_
  rintro e w4 ⟨rfl, hb⟩
  replace HA := Lib.hid (HA.out.next hb)
  replace X0 := Lib.hid (X0.out.next hb)
  replace X1 := Lib.hid (X1.out.next hb)
  replace HBL := Lib.hid (HBL.out.trans (hb.mono HBL.out.size))
  clear hb
  obtain ⟨c0, c1, c2, c3, c4, c5, c6, c7, c8, c9, c10, c11, c12, c13, c14⟩ := X1.out.cells
  go_wp2_with ((with_reducible refine at_store 2 ?_); refine wpList_store_named (o := ⟨none, .store 28 (.tmp 2) (.tmp 14), _, _, _, _⟩) rfl 28 (.tmp 2) (.tmp 14) rfl w.heap.size #[.int .i64 r.t.ser, .int .i64 r.t.kind, .int .i64 r.t.frm, .int .i64 r.t.till, .int .i64 r.t.cls, .int .i64 r.t.card, .int .i64 r.t.seat, .int .i64 r.t.day, .int .i64 r.t.days, .int .i64 r.t.uses, .int .i64 r.t.epoch, .int .i64 r.key, .int .i64 r.left, .int .i64 r.inn, .int .i64 r.ver] rfl rfl 28 #[.int .i64 0, .int .i64 0, .int .i64 0, .int .i64 0, .int .i64 0, .int .i64 0, .int .i64 0, .int .i64 0, .int .i64 0, .int .i64 0, .int .i64 0, .int .i64 0, .int .i64 0, .int .i64 0, .int .i64 0] X0.out infoRd rfl (rg_one _ _ _ _ _ _ _ _ _ _ _ _ _ _ _) ?_)
  intro w9 hw9
  go_wp2
  refine bodyPost_ret (results_cell_row Tryz.results35 _ w9 w.heap.size 28 #[.int .i64 r.t.ser, .int .i64 r.t.kind, .int .i64 r.t.frm, .int .i64 r.t.till, .int .i64 r.t.cls, .int .i64 r.t.card, .int .i64 r.t.seat, .int .i64 r.t.day, .int .i64 r.t.days, .int .i64 r.t.uses, .int .i64 r.t.epoch, .int .i64 r.key, .int .i64 r.left, .int .i64 r.inn, .int .i64 r.ver] (0, 0) _ rfl (by rw [hw9.out]; exact setRow_heap _ _ _ _ _ _ X0.out) Tryz.underlying28 rfl infoRd) rfl ⟨rfl, ?_⟩
  rw [hw9.out]
  exact below_setRow HBL.out (Nat.le_refl _) _
set_option maxRecDepth 100000 in
set_option maxHeartbeats 1600000 in
theorem prt_ok (l : List K) (n : Nat) (hn : n = l.length) (hn3 : n ≤ 9223372036854775807) (id : Int) (A : Option Addr) (c : Nat) (s : List Nat) (m : Nat) (hm : m = s.length) (h4 : m ≤ 3999) (B : Option Addr) (d : Nat) (w : World) (hT : Tabs w) (hA : Ks w w.heap.size A l) (hB : Bs w w.heap.size s B d) (h0 : findE l id = 0) (T : List Nat) (hTg : tagS (findK l id).sec s = T) : Calls Tryz.prog 37 #[.slice A n c, .int .i64 id, .slice B m d] w fun e w' => ∃ g cap, e = .returned (.slice (some ⟨g, 0, none⟩) 10 cap) ∧ Rd w' w'.heap.size (some ⟨g, 0, none⟩) (U8 T) ∧ Below w.heap.size w w' := by
  have HN := Lib.hid hn
  have HM := Lib.hid hm
  have HT := Lib.hid hT
  have HA := Lib.hid hA
  have HB := Lib.hid hB
  have HTG := Lib.hid hTg
  have H0 := Lib.hid h0
  clear hn hm hT hA hB hTg h0
  have HBL := Lib.hid (Below.refl w.heap.size w)
  go_enter Tryz.func37, Tryz.ntmps37
  go_wp2_with fail
  refine (tagby_ok l n HN.out hn3 id A c s m HM.out h4 B d w HT.out HA.out HB.out H0.out T HTG.out).mono ?_
  rintro e w1 ⟨g, cap, rfl, hs, hb⟩
  replace HT := Lib.hid (HT.out.next hb)
  replace HA := Lib.hid (HA.out.next hb)
  replace HB := Lib.hid (HB.out.next hb)
  replace HBL := Lib.hid (HBL.out.trans (hb.mono HBL.out.size))
  have G := Lib.hid hs
  clear hb hs
  go_wp2_with fail
  refine (sdem_ok 0 w1).mono ?_
  rintro e w2 ⟨rfl, hb⟩
  replace HT := Lib.hid (HT.out.next hb)
  replace HA := Lib.hid (HA.out.next hb)
  replace HB := Lib.hid (HB.out.next hb)
  replace G := Lib.hid (G.out.next hb)
  replace HBL := Lib.hid (HBL.out.trans (hb.mono HBL.out.size))
  clear hb
  go_wp2
  go_ret
  exact ⟨g, cap, rfl, G.out, HBL.out⟩
set_option maxRecDepth 100000 in
set_option maxHeartbeats 1600000 in
theorem prt_no (l : List K) (n : Nat) (hn : n = l.length) (hn3 : n ≤ 9223372036854775807) (id : Int) (A : Option Addr) (c : Nat) (s : List Nat) (m : Nat) (hm : m = s.length) (h4 : m ≤ 3999) (B : Option Addr) (d : Nat) (w : World) (hT : Tabs w) (hA : Ks w w.heap.size A l) (hB : Bs w w.heap.size s B d) (E : Int) (hE : findE l id = E) (h0 : E ≠ 0) : Calls Tryz.prog 37 #[.slice A n c, .int .i64 id, .slice B m d] w fun e w' => e = .panicked (told E) ∧ Below w.heap.size w w' := by
  have s1 : (E == 0) = false := by rw [beq_eq_false_iff_ne]; exact h0
  have HN := Lib.hid hn
  have HM := Lib.hid hm
  have HT := Lib.hid hT
  have HA := Lib.hid hA
  have HB := Lib.hid hB
  have HE := Lib.hid hE
  have H0 := Lib.hid h0
  clear hn hm hT hA hB hE h0
  have HBL := Lib.hid (Below.refl w.heap.size w)
  go_enter Tryz.func37, Tryz.ntmps37
  go_wp2_with fail
  refine (tagby_no l n HN.out hn3 id A c s m HM.out h4 B d w HT.out HA.out HB.out E HE.out H0.out).mono ?_
  rintro e w1 ⟨rfl, hb⟩
  replace HT := Lib.hid (HT.out.next hb)
  replace HA := Lib.hid (HA.out.next hb)
  replace HB := Lib.hid (HB.out.next hb)
  replace HBL := Lib.hid (HBL.out.trans (hb.mono HBL.out.size))
  clear hb
  go_wp2_with fail
  refine (sdem_no E w1).mono ?_
  rintro e w2 ⟨rfl, hb⟩
  replace HT := Lib.hid (HT.out.next hb)
  replace HA := Lib.hid (HA.out.next hb)
  replace HB := Lib.hid (HB.out.next hb)
  replace HBL := Lib.hid (HBL.out.trans (hb.mono HBL.out.size))
  clear hb
  go_wp2
  exact ⟨rfl, rfl, HBL.out⟩
end Go.Proofs.YtpniolinndlepaaGreatDoor
